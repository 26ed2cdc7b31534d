/-
  CONTRACTS of the program's wal: isRecord, sealed, first. No condition but what each theorem says.
-/
import Derived.Test.YtdfjicjlmejonaaWlD
import Derived.Test.YtdfjicjlmejonaaCrcE
namespace Go.Proofs.Ytdfjicjlmejonaa
open Go.RowKit
set_option maxRecDepth 100000

/-- may it be a record? -/
def isRec (n : Nat) : Bool := decide (1 ≤ n) && decide (n ≤ 16384)
theorem isRec_any (l : List UInt8) (v : Value) (w : World) (hv : Bs w v l) :
    Calls Try.prog 35 #[v] w fun e w' => e = .returned (.bool (isRec l.length)) ∧ w = w' := by
  obtain ⟨A, c, rfl, hc1, hc2, hr⟩ := hv
  by_cases h1 : 1 ≤ l.length
  · by_cases h2 : l.length ≤ 16384
    · have HE : Hid (isRec l.length = decide ((l.length : Int) ≤ 16384)) := Lib.hid (by simp [isRec, h1]; omega)
      go_enter Try.func35, Try.ntmps35
      go_wp2_with fail
      go_ret
      exact ⟨ret_bool HE.out.symm, rfl⟩
    · have HE : Hid (isRec l.length = decide ((l.length : Int) ≤ 16384)) := Lib.hid (by simp [isRec, h1]; omega)
      go_enter Try.func35, Try.ntmps35
      go_wp2_with fail
      go_ret
      exact ⟨ret_bool HE.out.symm, rfl⟩
  · have HE : Hid (isRec l.length = false) := Lib.hid (by simp [isRec, h1])
    have h0 : ¬ (1 : Int) ≤ (l.length : Int) := by omega
    go_enter Try.func35, Try.ntmps35
    go_wp2_with fail
    go_ret
    exact ⟨ret_bool HE.out.symm, rfl⟩

theorem wsealed_any (s : List UInt8) (v : Value) (w : World) (hs : s.length ≤ 65535) (hv : Bs w v s) :
    Calls Try.prog 36 #[v] w fun e w' => ∃ v', e = .returned v' ∧ Own w' w.heap.size 5 v' (recB s) ∧ Below w.heap.size w w' := by
  go_enter Try.func36, Try.ntmps36
  go_wp2_with fail
  refine (text_ok [] s _ _ _ hs (by simp) (Bs.nil _) hv).mono ?_
  rintro e w1 ⟨x, rfl, hx, hb1⟩
  rw [List.nil_append] at hx
  have hlen : (bet s.length 2 ++ s).length ≤ 140737488355320 := by rw [List.length_append, bet_length]; omega
  go_wp2_with fail
  refine (seal_any _ _ _ hlen hx.bs).mono ?_
  rintro e w2 ⟨y, rfl, hy, hb2⟩
  go_wp2_with fail
  go_ret
  exact ⟨_, rfl, hy.lower hb1.size, hb1.trans (hb2.mono hb1.size)⟩

/-- how a record at the first byte is found -/
theorem recAt_zero {l : List UInt8} (h6 : tsize l 0 + 6 ≤ l.length) {s : List UInt8} : RecAt l 0 s ↔ s = (bodyOf (l.take (tsize l 0 + 6))).drop 2 ∧ isRec (tsize l 0) = true ∧ tailOf (l.take (tsize l 0 + 6)) = crcOf (bodyOf (l.take (tsize l 0 + 6))) := by
  generalize hn : tsize l 0 = n at *
  have hy : (l.take (n + 6)).length = n + 6 := by rw [List.length_take]; omega
  have hbody : bodyOf (l.take (n + 6)) = l.take 2 ++ (l.drop 2).take n := by
    rw [bodyOf, hy, List.take_take, show min (n + 6 - 4) (n + 6) = 2 + n by omega, List.take_add]
  have h2 : (l.take 2).length = 2 := by rw [List.length_take]; omega
  have hdrop : (bodyOf (l.take (n + 6))).drop 2 = (l.drop 2).take n := by
    rw [hbody, List.drop_left' h2]
  have hnum : num (l.take 2) = n := by
    rw [← hn, tsize, List.drop_zero]
  have hbet : bet n 2 = l.take 2 := by
    have := bet_num (l.take 2)
    rw [h2, hnum] at this
    exact this
  have hln : ((l.drop 2).take n).length = n := by rw [List.length_take, List.length_drop]; omega
  have hiff := sealed_iff (l.take (n + 6)) (by omega)
  rw [← hiff, hdrop]
  constructor
  · intro h
    have hs := h.size
    rw [hn] at hs
    have hp := h.parts.2
    rw [Nat.zero_add, ← hs] at hp
    refine ⟨hp.symm, ?_, ?_⟩
    · have h1 := h.1
      have h2 := h.2.1
      simp [isRec]
      omega
    · have h3 := h.2.2
      rw [List.drop_zero, ← hs] at h3
      rw [h3, recB, body_sealed]
  · rintro ⟨rfl, h1, h2⟩
    simp [isRec] at h1
    refine ⟨by omega, by omega, ?_⟩
    rw [hln, List.drop_zero, ← h2, recB, hln, hbody, hbet]

/-- what 'first' tells -/
structure FirstP (w : World) (base : Nat) (l : List UInt8) (x : Value) (ok : Bool) : Prop where
  yes : ok = true → ∃ s, RecAt l 0 s ∧ Bs w x s ∧ ∀ q, x.ownBlock = some q → base ≤ q
  no : ok = false → ∀ s, ¬ RecAt l 0 s

theorem firstNo {w : World} {base : Nat} {l : List UInt8} {x : Value} (h : ∀ s, ¬ RecAt l 0 s) : FirstP w base l x false := by
  refine ⟨fun h => ?_, fun _ => h⟩
  cases h

set_option maxHeartbeats 1600000 in
theorem wfirst_any (l : List UInt8) (v : Value) (w : World) (hl : l.length ≤ 1000000000) (hv : Bs w v l) :
    Calls Try.prog 26 #[v] w fun e w' => ∃ x ok, e = .returned (.tuple #[x, .bool ok]) ∧ FirstP w' w.heap.size l x ok ∧ Below w.heap.size w w' := by
  have HV := Lib.hid hv
  have hR := fun u (hu : Bs u v l) => read_any v l u hu
  by_cases h2 : 2 ≤ l.length
  · have hts := tsize_lt l 0
    have hW := fun (g : Nat) (u : World) (hu : WR u g v l 0 false) => word_yes g v l 0 false 2 u hu (by simp [wordOk, isW]; omega)
    have e1 : num ((l.drop 0).take (2 : Int).toNat) = tsize l 0 := rfl
    rw [e1] at hW
    by_cases h6 : tsize l 0 + 6 ≤ l.length
    · have HI := Lib.hid (fun s => recAt_zero (l := l) h6 (s := s))
      obtain ⟨y, hy⟩ : ∃ y, y = l.take (tsize l 0 + 6) := ⟨_, rfl⟩
      have hyl : y.length = tsize l 0 + 6 := by rw [hy, List.length_take]; omega
      rw [← hy] at HI
      generalize tsize l 0 = n at *
      obtain ⟨A, c, rfl, hc1, hc2, hr⟩ := hv
      obtain ⟨V, hsl, hV, hVb⟩ := slice_bytes_to (P := Try.prog) w byteT elemB hr hc1 hc2 (n + 6) (by omega) (6 + (n : Int)) (by omega)
      rw [← hy] at hV
      have hbl : (bodyOf y).length = n + 2 := by rw [bodyOf_length]; omega
      have HVV := Lib.hid hV
      have HBL := Lib.hid hbl
      clear hr e1 hy hV hbl hVb
      go_enter Try.func26, Try.ntmps26
      go_wp2_with fail
      refine (hR _ HV.out).mono ?_
      rintro e w1 ⟨rfl, hw1, hb1⟩
      go_wp2_with fail
      refine (hW _ _ hw1).mono ?_
      rintro e w2 ⟨rfl, hw2, hg2⟩
      have HB2 := Lib.hid (hb1.grown hg2 hb1.size (fun z hz => by injection hz with hz; omega))
      clear hR hW hw1 hw2 hb1 hg2
      go_wp2_with fail
      refine (open_long y V _ (by omega) (by omega) (HVV.out.below HB2.out)).mono ?_
      rintro e w3 ⟨x, f, rfl, hO, hb3⟩
      have HB3 := Lib.hid (HB2.out.trans (hb3.mono HB2.out.size))
      by_cases htl : tailOf y = crcOf (bodyOf y)
      · obtain ⟨rfl, hx⟩ := hO.yes htl
        have HXG : Hid (∀ q, x.ownBlock = some q → w.heap.size ≤ q) := Lib.hid fun q hq => Nat.le_trans HB2.out.size (hx.ge q hq)
        obtain ⟨Ax, cx, rfl, hx1, hx2, hxr, _⟩ := hx.form
        obtain ⟨V2, hsl2, hV2, hVb2⟩ := slice_bytes_from (P := Try.prog) (w := w3) byteT elemB hxr hx1 hx2 2 (by rw [HBL.out]; omega) 2 rfl
        have hl2 : ((bodyOf y).drop 2).length = n := by rw [List.length_drop, HBL.out]; omega
        have hI := isRec_any _ _ w3 hV2
        rw [hl2] at hI
        have HV2 := Lib.hid hV2
        have HVB2 := Lib.hid hVb2
        rw [HBL.out] at hsl2
        have HRA : Hid (isRec n = true → RecAt l 0 ((bodyOf y).drop 2)) := Lib.hid fun h => (HI.out _).2 ⟨rfl, h, htl⟩
        have HRN : Hid (isRec n = false → ∀ s, ¬ RecAt l 0 s) := Lib.hid fun h s hs => by
          have := ((HI.out _).1 hs).2.1
          rw [h] at this
          cases this
        rw [HBL.out]
        clear htl hO hx hxr hx1 hV2 hVb2 hl2 hsl hb3
        go_wp2_with fail
        refine hI.mono ?_
        rintro e w4 ⟨rfl, rfl⟩
        generalize isRec n = ok at *
        go_wp2_with fail
        go_ret2
        refine ⟨_, _, rfl, ⟨fun h => ⟨_, HRA.out h, HV2.out, fun q hq => ?_⟩, fun h => HRN.out h⟩, HB3.out⟩
        exact HXG.out q (HVB2.out ▸ hq)
      · obtain ⟨rfl, rfl⟩ := hO.no htl
        have HN : Hid (∀ s, ¬ RecAt l 0 s) := Lib.hid fun s hs => htl ((HI.out s).1 hs).2.2
        clear htl hO
        go_wp2_with fail
        go_ret2
        exact ⟨_, _, rfl, firstNo HN.out, HB3.out⟩
    · have HN : Hid (∀ s, ¬ RecAt l 0 s) := Lib.hid fun s hs => by
        have a := hs.len
        have b := hs.size
        omega
      generalize tsize l 0 = n at *
      obtain ⟨A, c, rfl, hc1, hc2, hr⟩ := hv
      clear hr e1
      go_enter Try.func26, Try.ntmps26
      go_wp2_with fail
      refine (hR _ HV.out).mono ?_
      rintro e w1 ⟨rfl, hw1, hb1⟩
      go_wp2_with fail
      refine (hW _ _ hw1).mono ?_
      rintro e w2 ⟨rfl, hw2, hg2⟩
      have HB2 := Lib.hid (hb1.grown hg2 hb1.size (fun z hz => by injection hz with hz; omega))
      clear hR hW hw1 hw2 hb1 hg2
      go_wp2_with fail
      go_ret2
      exact ⟨_, _, rfl, firstNo HN.out, HB2.out⟩
  · have HN : Hid (∀ s, ¬ RecAt l 0 s) := Lib.hid fun s hs => by
      have a := hs.len
      omega
    have hW := fun (g : Nat) (u : World) (hu : WR u g v l 0 false) => word_no g v l 0 false 2 u hu (by simp [wordOk]; omega)
    obtain ⟨A, c, rfl, hc1, hc2, hr⟩ := hv
    clear hr
    go_enter Try.func26, Try.ntmps26
    go_wp2_with fail
    refine (hR _ HV.out).mono ?_
    rintro e w1 ⟨rfl, hw1, hb1⟩
    go_wp2_with fail
    refine (hW _ _ hw1).mono ?_
    rintro e w2 ⟨rfl, hw2, hg2⟩
    have HB2 := Lib.hid (hb1.grown hg2 hb1.size (fun z hz => by injection hz with hz; omega))
    clear hR hW hw1 hw2 hb1 hg2
    go_wp2_with fail
    go_ret2
    exact ⟨_, _, rfl, firstNo HN.out, HB2.out⟩
end Go.Proofs.Ytdfjicjlmejonaa

/-
  CONTRACTS of the document's own Reader (tankardref01): Text.
-/
import Derived.Test.YtdfjicjlmejonaaWordE
import Derived.Deep.RegionHeld3
namespace Go.Proofs.Ytdfjicjlmejonaa
open Go.RowKit

set_option maxHeartbeats 400000 in
theorem Text_bad (g : Nat) (v : Value) (l : List UInt8) (p : Nat) (most : Int) (w : World) (h : RR w g v l p true) :
    Calls Try.prog 27 #[.pointer (some ⟨g, 0, none⟩), .int .i64 most] w fun e w' => e = .returned (.slice none 0 0) ∧ w = w' := by
  have h1 := h.blk.cell 1
  have h2 := h.blk.cell 2
  simp [badAt] at h1 h2
  go_enter Try.func27, Try.ntmps27
  go_wp2_with (go_at_call 45; refine (Word_bad g v l p _ _ h).mono ?_; rintro e w' ⟨rfl, rfl⟩)
  go_ret
  exact ⟨rfl, rfl⟩

theorem Word_ts (g : Nat) (v : Value) (l : List UInt8) (p : Nat) (w : World) (h : RR w g v l p false) (hk : wordOk l p false 2 = true) :
    Calls Try.prog 45 #[.pointer (some ⟨g, 0, none⟩), .int .i64 2] w fun e w' => e = .returned (.int .u64 (tsize l p)) ∧ RR w' g v l (p + 2) false ∧ w.grownBy w' (some g) :=
  Word_yes g v l p 2 w h hk

theorem RR.reset {w : World} {g : Nat} {v : Value} {l : List UInt8} {q : Nat} (h : RR w g v l q false) (p : Nat) (hp : p ≤ l.length) : RR ((w.setCell ⟨g, 1, none⟩ (.int .i64 p)).setCell ⟨g, 2, none⟩ (.int .i64 p)) g v l p true :=
  (h.setAt p hp _ rfl).setBad

set_option maxHeartbeats 800000 in
theorem Text_no (g : Nat) (v : Value) (l : List UInt8) (p : Nat) (most : Int) (w : World) (h : RR w g v l p false) (hk : textOk l p false most = false) :
    Calls Try.prog 27 #[.pointer (some ⟨g, 0, none⟩), .int .i64 most] w fun e w' => e = .returned (.slice none 0 0) ∧ RR w' g v l p true ∧ w.grownBy w' (some g) := by
  have h1 := h.blk.cell 1
  have hle := h.le
  have hsm := h.small
  simp at h1
  cases hw : wordOk l p false 2 with
  | false =>
    have HW := Lib.hid hw
    clear hw hk
    go_enter Try.func27, Try.ntmps27
    go_wp2_with fail
    refine (Word_no g v l p _ _ h HW.out).mono ?_
    rintro e w1 ⟨rfl, hR, hg⟩
    have h2 := hR.blk.cell 2
    simp [badAt] at h2
    clear h1
    go_wp2
    go_ret
    exact ⟨rfl, hR, hg⟩
  | true =>
    have hn : 2 ≤ (l.length : Int) - p := by simpa [wordOk, isW] using hw
    have hts := tsize_lt l p
    have hor : most < (tsize l p : Int) ∨ (l.length : Int) < (p : Int) + 2 + tsize l p := by
      simp [textOk] at hk
      omega
    have HW := Lib.hid hw
    clear hw hk
    have hv := h.bs
    obtain ⟨A, c, rfl, hc1, hc2, hr⟩ := hv
    have hwt : wrap64 (tsize l p : Int) = (tsize l p : Int) := IntWalk.wrap64_in _ ⟨by omega, by omega⟩
    by_cases hm : most < (tsize l p : Int)
    · have hd : decide (most < (tsize l p : Int)) = true := by simpa using hm
      clear hor
      go_enter Try.func27, Try.ntmps27
      go_wp2_with fail
      refine (Word_ts g _ l p _ h HW.out).mono ?_
      rintro e w1 ⟨rfl, hR, hg⟩
      have h0' := hR.blk.cell 0
      have h1' := hR.blk.cell 1
      have h2' := hR.blk.cell 2
      have f1' := hR.blk.frozen 1
      have f2' := hR.blk.frozen 2
      simp [badAt] at h0' h1' h2'
      clear h1
      go_wp2
      go_quiet (fail)
      go_wp2
      go_ret
      exact ⟨rfl, (hR.drewN _).reset p hle, grown_trans hg (grown_drewN_left (grown_trans (grown_set _ _ _ _) (grown_set _ _ _ _)))⟩
    · have hd : decide (most < (tsize l p : Int)) = false := by simpa using hm
      have hlt : (l.length : Int) < (p : Int) + 2 + tsize l p := by omega
      have hd2 : decide ((l.length : Int) < (p : Int) + 2 + tsize l p) = true := by simpa using hlt
      have e1 : IntKind.i64.wrap ((p : Int) + 2 + tsize l p) = (p : Int) + 2 + tsize l p := IntWalk.i64_in _ (by omega)
      clear hor
      go_enter Try.func27, Try.ntmps27
      go_wp2_with fail
      refine (Word_ts g _ l p _ h HW.out).mono ?_
      rintro e w1 ⟨rfl, hR, hg⟩
      have h0' := hR.blk.cell 0
      have h1' := hR.blk.cell 1
      have h2' := hR.blk.cell 2
      have f1' := hR.blk.frozen 1
      have f2' := hR.blk.frozen 2
      simp [badAt] at h0' h1' h2'
      clear h1
      go_wp2
      go_quiet (fail)
      clear e1
      go_wp2
      go_ret
      exact ⟨rfl, (hR.drewN _).reset p hle, grown_trans hg (grown_drewN_left (grown_trans (grown_set _ _ _ _) (grown_set _ _ _ _)))⟩

set_option maxHeartbeats 800000 in
theorem Text_yes (g : Nat) (v : Value) (l : List UInt8) (p : Nat) (most : Int) (w : World) (h : RR w g v l p false) (hk : textOk l p false most = true) :
    Calls Try.prog 27 #[.pointer (some ⟨g, 0, none⟩), .int .i64 most] w fun e w' =>
      ∃ v', e = .returned v' ∧ Own w' w.heap.size 5 v' ((l.drop (p + 2)).take (tsize l p)) ∧ RR w' g v l (p + 2 + tsize l p) false ∧ w.grownBy w' (some g) := by
  have hk4 : 2 ≤ (l.length : Int) - p ∧ (tsize l p : Int) ≤ (l.length : Int) - p - 2 ∧ (tsize l p : Int) ≤ most := by simpa [textOk, and_assoc] using hk
  obtain ⟨hn, hs, hm⟩ := hk4
  have h1 := h.blk.cell 1
  have hle := h.le
  have hsm := h.small
  have hlt := h.blk.lt
  simp at h1
  have hw : wordOk l p false 2 = true := by simpa [wordOk, isW] using hn
  have hts := tsize_lt l p
  have HW := Lib.hid hw
  clear hw hk
  have hv := h.bs
  obtain ⟨A, c, rfl, hc1, hc2, hr⟩ := hv
  have hwt : wrap64 (tsize l p : Int) = (tsize l p : Int) := IntWalk.wrap64_in _ ⟨by omega, by omega⟩
  have hd : decide (most < (tsize l p : Int)) = false := by simpa using hm
  have hd2 : decide ((l.length : Int) < (p : Int) + 2 + tsize l p) = false := by simp; omega
  have e1 : IntKind.i64.wrap ((p : Int) + 2 + tsize l p) = (p : Int) + 2 + tsize l p := IntWalk.i64_in _ (by omega)
  go_enter Try.func27, Try.ntmps27
  go_wp2_with fail
  refine (Word_ts g _ l p _ h HW.out).mono ?_
  rintro e w1 ⟨rfl, hR, hg⟩
  have h0' := hR.blk.cell 0
  have h1' := hR.blk.cell 1
  have h2' := hR.blk.cell 2
  simp [badAt] at h0' h1' h2'
  clear h1
  go_wp2
  go_quiet (fail)
  go_wp2
  have hb2 := hR.bs
  obtain ⟨A2, c2, hv2, _, _, hr2⟩ := hb2
  obtain ⟨V, hsl, hV, _⟩ := slice_bytes (P := Try.prog) w1 byteT elemB (A := A) (c := c) (l := l) (by
      injection hv2 with hv2
      subst hv2
      exact hr2) hc1 hc2 (p + 2) (p + 2 + tsize l p) (by omega) (by omega) ((p : Int) + 2) ((p : Int) + 2 + tsize l p) (by omega) (by omega)
  rw [Nat.add_sub_cancel_left] at hV
  have hlV : ((l.drop (p + 2)).take (tsize l p)).length ≤ 65536 := by simp; omega
  have hR2 := hR.drewN nq
  have hV2 : Bs (w1.drewN nq) V ((l.drop (p + 2)).take (tsize l p)) := hV
  have hg2 := grown_drewN hg nq
  clear hv2 hr2 hwt hd hd2 hR hV hg h0' h1' h2'
  revert hR2 hV2 hg2
  generalize w1.drewN nq = w2
  intro hR2 hV2 hg2
  have h0' := hR2.blk.cell 0
  have h1' := hR2.blk.cell 1
  have hl2 := hR2.blk.lt
  have hz2 := hg2.size
  simp at h0' h1'
  go_region_held3 (fun w' => w'.cell? ⟨g, 0, none⟩ = some (.slice A l.length c) ∧ w'.cell? ⟨g, 1, none⟩ = some (.int .i64 ((p : Int) + 2)))
    (first
      | go_keep
      | (go_split_ands
         refine ⟨?_, ?_⟩
         · (rw [hg3.cell_far _ (by simp; omega) (by simp [Value.ownBlock]; omega)]; assumption)
         · (rw [hg3.cell_far _ (by simp; omega) (by simp [Value.ownBlock]; omega)]; assumption)))
    (first | (refine step_append_v _ byteT (by rfl) _ _ (by rfl) w.heap.size (.slice (some ⟨w2.heap.size, 0, none⟩) 0 0) [] (by rfl) (Own.made w2 w.heap.size 5 #[] 0 hz2 (by simp [maxLen]) rfl) V _ (by rfl) (hV2.alloc _) (by simp; omega) (by simp; omega) ?_; intro v3 w3 hown3 hg3 hat3))
  have hb3 : Below w2.heap.size w2 w3 := ((Below.refl _ w2).alloc (Nat.le_refl _) _).drew.grown hg3 (by simp) (by intro k hk; simp [Value.ownBlock] at hk; omega)
  have hR3 := hR2.below hb3
  have h1'' := hR3.blk.cell 1
  have f1'' := hR3.blk.frozen 1
  simp at h1''
  rw [List.nil_append] at hown3
  have hg23 := grown_trans hg2 (grown_of_below hb3 (some g))
  clear hg3 hat3 hsl e1 h0' h1' hg2 hb3 hR2 hV2
  rename_i hheld
  clear hheld
  go_wp2
  go_ret
  exact ⟨_, rfl, hown3.kept (grown_set w3 g 1 _) (.inr (hown3.ne_ hlt)), hR3.setAt (p + 2 + tsize l p) (by omega) _ (by omega), grown_trans hg23 (grown_set _ _ _ _)⟩

end Go.Proofs.Ytdfjicjlmejonaa

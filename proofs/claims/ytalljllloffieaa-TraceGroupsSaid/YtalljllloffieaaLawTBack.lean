/-
  tankardlaw04.TraceBack, walked: it returns true at every list of spans; nothing that was there has turned. No condition.
-/
import Derived.Test.YtalljllloffieaaTrU
namespace Go.Proofs.Ytalljllloffieaa
open Go.RowKit

theorem few_len {l : List Sn} {n : Nat} (h : fewB l (n : Int) = true) : l.length ≤ n ∧ ∀ s ∈ l, s.data.length ≤ 200 := by
  simp only [fewB, Bool.and_eq_true, decide_eq_true_iff, List.all_eq_true] at h
  exact ⟨by omega, h.1⟩

set_option maxHeartbeats 1600000 in
set_option maxRecDepth 100000 in
theorem traceBack_any (v : Value) (l : List Sn) (w : World) (h : Ss w v l) :
    Calls Try.prog 6 #[v] w fun e w' => e = .returned (.bool true) ∧ Below w.heap.size w w' := by
  have H := Lib.hid h
  clear h
  go_enter Try.func6, Try.ntmps6
  go_wp2_with fail
  refine (up4_any _).mono ?_
  rintro e w1 ⟨rfl, hb1⟩
  go_wp2_with fail
  refine (Few_any v l 100 w1 (H.out.below hb1)).mono ?_
  rintro e w2 ⟨rfl, rfl⟩
  cases hf : fewB l 100 with
  | false =>
    clear hf
    go_wp2_with fail
    go_ret
    exact ⟨rfl, hb1⟩
  | true =>
    obtain ⟨hl, hd⟩ := few_len (n := 100) hf
    have hd' : ∀ s ∈ l, s.data.length ≤ 1000000 := fun s hs => by have := hd s hs; omega
    have HD := Lib.hid hd'
    clear hf hd hd'
    go_wp2_with fail
    refine (group_any v l _ (H.out.below hb1) (by omega) HD.out).mono ?_
    rintro e w3 ⟨v3, g, rfl, hts, hG, hb3⟩
    have hB3 := hb1.trans (hb3.mono hb1.size)
    have hgl := hG.len
    have hfl := nodup_le (Grp.flat_nodup hG.up hG.sp) hG.flat_sub
    have HTS := Lib.hid hts
    clear hts hb1 hb3
    go_wp2_with fail
    refine (flat_any v3 g _ HTS.out (by omega) (by omega) (fun s hs => HD.out s (hG.flat_sub s hs))).mono ?_
    rintro e w4 ⟨v4, rfl, ho4, hb4⟩
    have hB4 := hB3.trans (hb4.mono hB3.size)
    have HTS4 := Lib.hid (HTS.out.below hb4)
    have HO4 := Lib.hid ho4
    clear hb4 ho4 hB3
    obtain ⟨A4, c4, rfl, _⟩ := HO4.out.ss.form
    go_wp2_with fail
    refine (gather_any v l _ (H.out.below hB4) (by omega) HD.out).mono ?_
    rintro e w5 ⟨v5, q, rfl, ho5, hQ, hb5⟩
    have hB5 := hB4.trans (hb5.mono hB4.size)
    have HO45 := Lib.hid (HO4.out.below hb5)
    have HTS5 := Lib.hid (HTS4.out.below hb5)
    obtain ⟨A5, c5, hv5, _⟩ := ho5.ss.form
    rw [← hG.flat_len hQ] at hv5
    subst hv5
    clear hb5 ho5 hB4
    go_wp2_with fail
    refine (gather_any _ (flatT g) _ HO45.out.ss (by omega) (fun s hs => HD.out s (hG.flat_sub s hs))).mono ?_
    rintro e w6 ⟨v6, q6, rfl, ho6, hQ6, hb6⟩
    have hB6 := hB5.trans (hb6.mono hB5.size)
    have HO46 := Lib.hid (HO45.out.below hb6)
    have HTS6 := Lib.hid (HTS5.out.below hb6)
    have HO6 := Lib.hid ho6
    clear hb6 ho6 hB5
    go_wp2_with fail
    refine (gather_any v l _ (H.out.below hB6) (by omega) HD.out).mono ?_
    rintro e w7 ⟨v7, q7, rfl, ho7, hQ7, hb7⟩
    have hB7 := hB6.trans (hb7.mono hB6.size)
    have HO47 := Lib.hid (HO46.out.below hb7)
    have HTS7 := Lib.hid (HTS6.out.below hb7)
    have HO67 := Lib.hid (HO6.out.below hb7)
    have HO7 := Lib.hid ho7
    clear hb7 ho7 hB6
    go_wp2_with fail
    refine (Spans_any v6 v7 q6 q7 _ HO67.out.ss HO7.out.ss).mono ?_
    rintro e w8 ⟨rfl, hb8⟩
    rw [hG.flat_gat hQ hQ6, ← hQ.one hQ7, eqSp_refl]
    have hB8 := hB7.trans (hb8.mono hB7.size)
    have HO48 := Lib.hid (HO47.out.below hb8)
    have HTS8 := Lib.hid (HTS7.out.below hb8)
    clear hb8 hB7
    go_wp2_with fail
    refine (group_any _ (flatT g) _ HO48.out.ss (by omega) (fun s hs => HD.out s (hG.flat_sub s hs))).mono ?_
    rintro e w9 ⟨v9, g9, rfl, hts9, hG9, hb9⟩
    have hB9 := hB8.trans (hb9.mono hB8.size)
    have HTS9 := Lib.hid (HTS8.out.below hb9)
    obtain rfl := hG.flat_grp hG9
    have HTN := Lib.hid hts9
    clear hb9 hB8 hts9
    go_wp2_with fail
    refine (Traces_same v9 v3 _ _ HTN.out HTS9.out).mono ?_
    rintro e w10 ⟨rfl, hb10⟩
    have hB10 := hB9.trans (hb10.mono hB9.size)
    go_wp2_with fail
    go_ret
    exact ⟨rfl, hB10⟩

end Go.Proofs.Ytalljllloffieaa

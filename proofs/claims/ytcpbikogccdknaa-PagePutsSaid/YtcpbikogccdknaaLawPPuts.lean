/-
  tankardlaw05.PagePuts, walked: it returns true at every list of at most 2^47 traces; nothing that was there has turned.
-/
import Derived.Test.YtcpbikogccdknaaPgF
namespace Go.Proofs.Ytcpbikogccdknaa
open Go.RowKit Go.Maps
set_option maxRecDepth 100000

set_option maxHeartbeats 3200000 in
theorem pagePuts_any (v : Value) (l : List Tn) (w : World) (h : Ts w v l) (hll : l.length ≤ 140737488355328) :
    Calls Try.prog 3 #[v] w fun e w' => e = .returned (.bool true) ∧ Below w.heap.size w w' := by
  have H := Lib.hid h
  have eqc := eqCode
  obtain ⟨A, c, rfl, hc1, hc2⟩ := h.form
  clear h
  go_enter Try.func3, Try.ntmps3
  go_wp2_with fail
  refine (up5_any _).mono ?_
  rintro e w1 ⟨rfl, hb1⟩
  go_wp2_with fail
  refine (FewTraces_any _ l 300 w1 (H.out.below hb1) hll).mono ?_
  rintro e w2 ⟨rfl, rfl⟩
  cases hf : fewT l 300 with
  | false =>
    clear hf
    go_wp2_with fail
    go_ret
    exact ⟨rfl, hb1⟩
  | true =>
    obtain ⟨hl1, _, _⟩ := pfew (n := 300) hf
    clear hf
    go_wp2_with fail
    refine (pput_any _ l _ (H.out.below hb1)).mono ?_
    rintro e w2 ⟨x, er, rfl, hP, hb2⟩
    have hB2 := hb1.trans (hb2.mono hb1.size)
    cases hp : pgB l with
    | false =>
      obtain ⟨rfl, rfl⟩ := hP.no hp
      have HP := Lib.hid hp
      clear hP hp
      go_wp2_with fail
      refine (Is_any _ l _ (H.out.below hB2)).mono ?_
      rintro e w3 ⟨rfl, hb3⟩
      have hB3 := hB2.trans (hb3.mono hB2.size)
      cases hi : isB l with
      | false =>
        clear hi
        go_wp2_with fail
        go_ret
        exact ⟨rfl, hB3⟩
      | true =>
        have hl64 : 64 < l.length := by
          have := HP.out
          simp only [pgB, hi, Bool.and_true, decide_eq_false_iff_not] at this
          omega
        clear hi
        go_wp2_with fail
        go_ret
        exact ⟨rfl, hB3⟩
    | true =>
      obtain ⟨rfl, hown⟩ := hP.yes hp
      obtain ⟨hl64, hIs⟩ := pgB_iff.1 hp
      have hst : ∀ u, Below w2.heap.size w2 u → (convert 25 9 x).run Try.prog u = .ok (.string (Bstr (pgOf l))) u := fun u hu => strOf (hown.bs.below hu)
      obtain ⟨Ax, cx, hxv, _⟩ := hown.form
      subst hxv
      have HIS := Lib.hid hIs
      have hib := Lib.hid (isB_true hIs)
      clear hP hp hIs hown
      go_wp2_with fail
      refine (Is_any _ l _ (H.out.below hB2)).mono ?_
      rintro e w3 ⟨rfl, hb3⟩
      rw [hib.out]
      have hB3 := hB2.trans (hb3.mono hB2.size)
      replace hst : ∀ u, Below w3.heap.size w3 u → (convert 25 9 (.slice Ax (pgOf l).length cx)).run Try.prog u = .ok (.string (Bstr (pgOf l))) u := fun u hu => hst u (hb3.trans (hu.mono hb3.size))
      clear hib
      go_wp2_with fail
      refine wp_region_mix [(0, false), (1, false), (2, false), (3, false), (4, false), (5, false), (6, false), (7, false), (8, false), (9, true), (10, true), (11, true), (12, true), (13, true)] (fun u => Below w3.heap.size w3 u) (by kernel_rfl) (by kernel_rfl) (by kernel_rfl) rfl (Below.refl _ _).drew ?_
      repeat
        (refine mix_read (o := ⟨_, _, _, _, _, _⟩) (v := ?_) rfl (by rfl) (fun w' hS => ?_) ?_
         rotate_left
         go_simp
         with_reducible rfl
         try simp only [Act.put, List.setIfInBounds_toArray, List.set_cons_zero, List.set_cons_succ])
      refine mix_step (o := ⟨_, _, _, _, _, _⟩) rfl (fun K hK => ?_)
      go_simp
      refine (Page_any _ l _ (H.out.below hB3.drew) HIS.out (by omega)).mono ?_
      rintro e w5 ⟨v5, rfl, hown5, hb5⟩
      have hb5' : Below w3.heap.size w3 w5 := (Below.refl _ w3).drew.trans hb5
      have hst5 := strOf hown5.bs
      refine hK.out _ _ hb5' ?_
      clear hK K
      try simp only [Act.put, List.setIfInBounds_toArray, List.set_cons_zero, List.set_cons_succ]
      have heq : ((Bstr (pgOf l)).toList == (Bstr (pgOf l)).toList) = true := by simp
      repeat
        (refine mix_step (o := ⟨_, _, _, _, _, _⟩) rfl (fun K hK => ?_)
         go_simp
         refine hK.out _ _ hb5' ?_
         clear hK K
         try simp only [Act.put, List.setIfInBounds_toArray, List.set_cons_zero, List.set_cons_succ])
      refine mix_done ?_
      go_wp2_with fail
      go_ret
      exact ⟨rfl, hB3.trans (hb5'.mono hB3.size)⟩

end Go.Proofs.Ytcpbikogccdknaa

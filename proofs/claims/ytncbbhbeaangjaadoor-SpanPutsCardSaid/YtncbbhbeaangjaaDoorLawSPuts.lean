/-
  SpanPuts: for all spans it returns true, and what is handed in reads as it did. Its walk. Condition: errors.errorType holds the handle of 'error' (Hd).
-/
import Derived.Test.YtncbbhbeaangjaaDoorSpanG
import Derived.Test.YtncbbhbeaangjaaDoorMix
namespace Go.Proofs.YtncbbhbeaangjaaDoor
open Go.RowKit

set_option maxRecDepth 100000 in
set_option maxHeartbeats 3200000 in
theorem spanPuts_any (v : Value) (l : List Sn) (w : World) (h : Ss w v l) (hd : Hd w) :
    Calls Tryd.prog 4 #[v] w fun e w' => e = .returned (.bool true) ∧ Below w.heap.size w w' := by
  go_enter Tryd.func4, Tryd.ntmps4
  go_wp2_with fail
  refine (up3_any _ hd).mono ?_
  rintro e w1 ⟨rfl, hb1⟩
  go_wp2_with fail
  refine (Few_any _ l _ _ (h.below hb1)).mono ?_
  rintro e w2 ⟨rfl, rfl⟩
  cases hf : fewB l 300 with
  | false =>
    go_wp2_with fail
    go_ret
    exact ⟨rfl, hb1⟩
  | true =>
    have hl : l.length ≤ 300 := by
      simp only [fewB, Bool.and_eq_true, decide_eq_true_iff] at hf
      omega
    clear hf
    go_wp2_with fail
    refine (sput_any _ l _ (h.below hb1) (by omega)).mono ?_
    rintro e w2 ⟨x, er, rfl, hP, hb2⟩
    have hB2 := hb1.trans (hb2.mono hb1.size)
    have hS2 := h.below hB2
    obtain ⟨A, c, rfl, hc1, hc2⟩ := h.form
    have HP := Lib.hid hP
    have HS := Lib.hid hS2
    clear hP hS2 hb1 hb2 h hd
    go_wp2_with fail
    go_loopw [7] (fun i wr => ∃ k : Nat, k ≤ l.length ∧ i = .int .i64 k ∧ Below w2.heap.size w2 wr ∧ Hid ((l.take k).all mayB = true)) (fun i _ => l.length - (intOf i).toNat)
    case atStart => exact ⟨0, Nat.zero_le _, rfl, Below.refl _ _, Lib.hid (by simp)⟩
    case round =>
      obtain ⟨k, hk, rfl, hB, HM⟩ := hrel
      by_cases hlt : k < l.length
      · obtain ⟨s, hks⟩ : ∃ s, l[k]? = some s := ⟨_, List.getElem?_eq_getElem hlt⟩
        obtain ⟨g, o, d, rfl, hg, c0, c1, c2, c3, c4, hdd, hok⟩ := (HS.out.below hB).cells hks
        have hV : SV wr (.agg #[.int .u64 s.tr, .int .u64 s.id, .int .i64 s.st, .int .i64 s.en, d]) s := ⟨hok, d, rfl, hdd⟩
        cases hm : mayB s with
        | true =>
          have HT := Lib.hid (take_snoc_of hks)
          have HMS := Lib.hid hm
          clear hm hks hdd hok
          go_wp2_with fail
          refine (May_any _ s _ hV).mono ?_
          rintro e w3 ⟨rfl, hb3⟩
          rw [HMS.out]
          go_wp2_with fail
          refine ⟨⟨k + 1, by omega, by go_num, hB.trans (hb3.mono hB.size), Lib.hid ?_⟩, by simp [intOf]; omega⟩
          rw [HT.out, List.all_append, HM.out]
          simp [HMS.out]
        | false =>
          have hall : l.all mayB = false := by
            rw [List.all_eq_false]
            exact ⟨s, List.mem_of_getElem? hks, by rw [hm]; simp⟩
          obtain ⟨rfl, rfl⟩ := HP.out.no hall
          have HMS := Lib.hid hm
          have eqc := eqCode
          clear hm hks hdd hok hall
          go_wp2_with fail
          refine (May_any _ s _ hV).mono ?_
          rintro e w3 ⟨rfl, hb3⟩
          rw [HMS.out]
          go_wp2_with fail
          go_ret
          exact ⟨rfl, hB2.trans ((hB.trans (hb3.mono hB.size)).mono hB2.size)⟩
      · have hkk : k = l.length := by omega
        subst hkk
        rw [List.take_length] at HM
        obtain ⟨rfl, hown⟩ := HP.out.yes HM.out
        have hS := HS.out.below hB
        have hx := hown.bs.below hB
        have hst : ∀ u, Below wr.heap.size wr u → (convert 23 9 x).run Tryd.prog u = .ok (.string (Bstr (encS l))) u := fun u hu => strOf (hx.below hu)
        clear hlt hown hx
        go_wp2_with fail
        refine wp_region_mix [(0, false), (1, false), (2, false), (3, false), (4, false), (5, false), (6, false), (7, false), (8, false), (9, true), (10, false), (11, true), (12, true), (13, true)] (fun u => Below wr.heap.size wr u) (by kernel_rfl) (by kernel_rfl) (by kernel_rfl) rfl (Below.refl _ _).drew ?_
        repeat
          (refine mix_read (o := ⟨_, _, _, _, _, _⟩) (v := ?_) rfl (by rfl) (fun w' hS => ?_) ?_
           rotate_left
           go_simp
           with_reducible rfl
           try simp only [Act.put, List.setIfInBounds_toArray, List.set_cons_zero, List.set_cons_succ])
        refine mix_more (o := ⟨_, _, _, _, _, _⟩) rfl (fun K hK => ?_)
        go_simp
        refine (SBytes_any _ l _ hS.drew (by omega) HM.out).mono ?_
        rintro e w3 ⟨v3, rfl, hown3, hb3⟩
        have hB3 : Below wr.heap.size wr w3 := ⟨hb3.os, hb3.tape, hb3.output, hb3.size, hb3.block⟩
        refine hK.out (fun u => Below wr.heap.size wr u ∧ Bs u v3 (encS l)) _ _ (fun _ h => h.1) ⟨hB3, hown3.bs⟩ ?_
        clear hK K
        have hst3 : ∀ u, Below wr.heap.size wr u ∧ Bs u v3 (encS l) → (convert 23 9 v3).run Tryd.prog u = .ok (.string (Bstr (encS l))) u := fun u h => strOf h.2
        try simp only [Act.put, List.setIfInBounds_toArray, List.set_cons_zero, List.set_cons_succ]
        repeat
          (refine mix_read (o := ⟨_, _, _, _, _, _⟩) (v := ?_) rfl (by rfl) (fun w' hS => ?_) ?_
           rotate_left
           go_simp
           with_reducible rfl
           try simp only [Act.put, List.setIfInBounds_toArray, List.set_cons_zero, List.set_cons_succ])
        repeat
          (refine mix_step (o := ⟨_, _, _, _, _, _⟩) rfl (fun K hK => ?_)
           go_simp
           refine hK.out _ _ ⟨hB3, hown3.bs⟩ ?_
           clear hK K)
        refine mix_done ?_
        go_wp2_with fail
        go_ret
        exact ⟨rfl, hB2.trans ((hB.trans (hB3.mono hB.size)).mono hB2.size)⟩

end Go.Proofs.YtncbbhbeaangjaaDoor

/-
  tankardlaw04.TraceGroups, walked: it returns true at every list of spans, and every list of at most 2^47 traces; nothing that was there has turned.
-/
import Derived.Test.YtalljllloffieaaTrM
import Derived.Test.YtalljllloffieaaLawTBack
namespace Go.Proofs.Ytalljllloffieaa
open Go.RowKit

theorem fewT_parts {l : List Tn} {n : Nat} (h : fewT l (n : Int) = true) : l.length ≤ 100 ∧ (flatT l).length ≤ n ∧ ∀ s ∈ flatT l, s.data.length ≤ 200 := by
  simp only [fewT, Bool.and_eq_true, decide_eq_true_iff, List.all_eq_true] at h
  refine ⟨by omega, by omega, fun s hs => ?_⟩
  simp only [flatT, List.mem_flatMap] at hs
  obtain ⟨t, ht, hs⟩ := hs
  exact (few_len (n := 150) (h.1 t ht)).2 s hs

set_option maxHeartbeats 6400000 in
set_option maxRecDepth 100000 in
theorem traceGroups_any (va vt : Value) (a : List Sn) (l : List Tn) (w : World) (ha : Ss w va a) (ht : Ts w vt l) (hll : l.length ≤ 140737488355328) :
    Calls Try.prog 4 #[va, vt] w fun e w' => e = .returned (.bool true) ∧ Below w.heap.size w w' := by
  have HA := Lib.hid ha
  have HT := Lib.hid ht
  clear ha ht
  go_enter Try.func4, Try.ntmps4
  go_wp2_with fail
  refine (up4_any _).mono ?_
  rintro e w1 ⟨rfl, hb1⟩
  go_wp2_with fail
  refine (Few_any va a 100 w1 (HA.out.below hb1)).mono ?_
  rintro e w2 ⟨rfl, rfl⟩
  go_wp2_with fail
  refine (FewTraces_any vt l 200 w1 (HT.out.below hb1) hll).mono ?_
  rintro e w2 ⟨rfl, rfl⟩
  cases hfa : fewB a 100 with
  | false =>
    clear hfa
    go_wp2_with fail
    go_ret
    exact ⟨rfl, hb1⟩
  | true =>
  cases hfb : fewT l 200 with
  | false =>
    clear hfa hfb
    go_wp2_with fail
    go_ret
    exact ⟨rfl, hb1⟩
  | true =>
    obtain ⟨hla, hda⟩ := few_len (n := 100) hfa
    obtain ⟨hlb, hlf, hdb⟩ := fewT_parts (n := 200) hfb
    have DA : Hid (∀ s ∈ a, s.data.length ≤ 1000000) := Lib.hid fun s hs => by have := hda s hs; omega
    have DB : Hid (∀ s ∈ flatT l, s.data.length ≤ 1000000) := Lib.hid fun s hs => by have := hdb s hs; omega
    clear hfa hfb hda hdb
    go_wp2_with fail
    refine (group_any va a _ (HA.out.below hb1) (by omega) DA.out).mono ?_
    rintro e y1 ⟨p1, r1, rfl, o1, G1, b1⟩
    have W1 := hb1.trans (b1.mono hb1.size)
    have O1 := Lib.hid o1
    clear o1 b1 hb1
    go_wp2_with fail
    refine (Group_any va a _ (HA.out.below W1) (by omega)).mono ?_
    rintro e y2 ⟨p2, r2, rfl, o2, G2, b2⟩
    have W2 := W1.trans (b2.mono W1.size)
    have O12 := Lib.hid (O1.out.below b2)
    have O2 := Lib.hid o2
    obtain rfl := G1.one G2
    clear o2 b2 W1 G1 G2
    go_wp2_with fail
    refine (Traces_same p1 p2 r1 _ O12.out O2.out).mono ?_
    rintro e y3 ⟨rfl, b3⟩
    have W3 := W2.trans (b3.mono W2.size)
    clear b3 W2
    go_wp2_with fail
    refine (flat_any vt l _ (HT.out.below W3) (by omega) (by omega) DB.out).mono ?_
    rintro e y4 ⟨p4, rfl, o4, b4⟩
    have W4 := W3.trans (b4.mono W3.size)
    have O4 := Lib.hid o4.ss
    clear o4 b4 W3
    go_wp2_with fail
    refine (Flat_any vt l _ (HT.out.below W4) (by omega) (by omega)).mono ?_
    rintro e y5 ⟨p5, rfl, o5, b5⟩
    have W5 := W4.trans (b5.mono W4.size)
    have O45 := Lib.hid (O4.out.below b5)
    have O5 := Lib.hid o5.ss
    clear o5 b5 W4
    go_wp2_with fail
    refine (Spans_any p4 p5 _ _ _ O45.out O5.out).mono ?_
    rintro e y6 ⟨rfl, b6⟩
    rw [eqSp_refl]
    have W6 := W5.trans (b6.mono W5.size)
    clear b6 W5
    go_wp2_with fail
    refine (is_any vt l _ (HT.out.below W6)).mono ?_
    rintro e y7 ⟨rfl, b7⟩
    have W7 := W6.trans (b7.mono W6.size)
    clear b7 W6
    go_wp2_with fail
    refine (Is_any vt l _ (HT.out.below W7)).mono ?_
    rintro e y8 ⟨rfl, b8⟩
    have W8 := W7.trans (b8.mono W7.size)
    clear b8 W7
    generalize isB l = b
    cases b <;>
    · go_wp2_with fail
      go_ret
      exact ⟨rfl, W8⟩

end Go.Proofs.Ytalljllloffieaa

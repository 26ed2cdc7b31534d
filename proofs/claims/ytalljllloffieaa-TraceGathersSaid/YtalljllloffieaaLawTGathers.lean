/-
  tankardlaw04.TraceGathers, walked: it returns true at every two lists of spans, and every Id; nothing that was there has turned. No condition.
-/
import Derived.Test.YtalljllloffieaaTrI
import Derived.Test.YtalljllloffieaaLawTBack
namespace Go.Proofs.Ytalljllloffieaa
open Go.RowKit

set_option maxHeartbeats 6400000 in
set_option maxRecDepth 100000 in
theorem traceGathers_any (va vb : Value) (a b : List Sn) (i : Int) (w : World) (ha : Ss w va a) (hb : Ss w vb b) :
    Calls Try.prog 3 #[va, vb, .int .u64 i] w fun e w' => e = .returned (.bool true) ∧ Below w.heap.size w w' := by
  have HA := Lib.hid ha
  have HB := Lib.hid hb
  clear ha hb
  go_enter Try.func3, Try.ntmps3
  go_wp2_with fail
  refine (up4_any _).mono ?_
  rintro e w1 ⟨rfl, hb1⟩
  go_wp2_with fail
  refine (Few_any va a 100 w1 (HA.out.below hb1)).mono ?_
  rintro e w2 ⟨rfl, rfl⟩
  go_wp2_with fail
  refine (Few_any vb b 100 w1 (HB.out.below hb1)).mono ?_
  rintro e w2 ⟨rfl, rfl⟩
  cases hfa : fewB a 100 with
  | false =>
    clear hfa
    go_wp2_with fail
    go_ret
    exact ⟨rfl, hb1⟩
  | true =>
  cases hfb : fewB b 100 with
  | false =>
    clear hfa hfb
    go_wp2_with fail
    go_ret
    exact ⟨rfl, hb1⟩
  | true =>
    obtain ⟨hla, hda⟩ := few_len (n := 100) hfa
    obtain ⟨hlb, hdb⟩ := few_len (n := 100) hfb
    have DA : Hid (∀ s ∈ a, s.data.length ≤ 1000000) := Lib.hid fun s hs => by have := hda s hs; omega
    have DB : Hid (∀ s ∈ b, s.data.length ≤ 1000000) := Lib.hid fun s hs => by have := hdb s hs; omega
    clear hfa hfb hda hdb
    have hA1 := HA.out.below hb1
    have hB1 := HB.out.below hb1
    obtain ⟨Aa, ca, rfl, _⟩ := hA1.form
    obtain ⟨Ab, cb, rfl, _⟩ := hB1.form
    have W1 : Below w1.heap.size w1 (w1.alloc (.cells #[] 40)) := (Below.refl _ w1).alloc (Nat.le_refl _) _
    have SA : Hid (Sf (w1.alloc (.cells #[] 40)) (Value.slice (some ⟨w1.heap.size, 0, none⟩) 0 0).ownBlock (.slice Aa a.length ca) a) := Lib.hid (Sf.of_ss hA1 W1 (fun q hq => by have : w1.heap.size = q := Option.some.inj hq; omega))
    have HB1 := Lib.hid hB1
    clear hA1 hB1
    go_wp2_with (at_builtin; refine wpList_append_own5 (v := .slice (some ⟨w1.heap.size, 0, none⟩) 0 0) (l := []) _ rfl _ _ rfl rfl (Own5.made w1) rfl SA.out (by simp only [List.length_nil]; omega) (by simp) ?_)
    intro v2 w2 ho2 hg2 _
    have W2 : Below w1.heap.size w1 w2 := W1.grown hg2 W1.size (fun q hq => by have : w1.heap.size = q := Option.some.inj hq; omega)
    have HO2 := Lib.hid ho2
    have SB : Hid (Sf w2 v2.ownBlock (.slice Ab b.length cb) b) := Lib.hid (Sf.of_ss HB1.out W2 (fun q hq => (HO2.out.lt q hq).1))
    clear ho2 hg2 W1
    go_wp2_with (at_builtin; refine wpList_append_own5 _ rfl _ _ rfl rfl HO2.out rfl SB.out (by first | omega | (simp; omega)) W2.size ?_)
    intro v3 w3 ho3 hg3 _
    have W3 : Below w1.heap.size w1 w3 := W2.grown hg3 W2.size (fun q hq => (HO2.out.lt q hq).1)
    have hB3 := hb1.trans (W3.mono hb1.size)
    have OB : Hid (Ss w3 v3 (a ++ b)) := Lib.hid (by simpa using ho3.ss)
    clear ho3 hg3 W2 W3 hb1
    go_wp2_with fail
    refine (gather_any _ a _ (HA.out.below hB3) (by omega) DA.out).mono ?_
    rintro e y1 ⟨p1, r1, rfl, o1, G1, b1⟩
    have W1 := hB3.trans (b1.mono hB3.size)
    have O1 := Lib.hid o1.ss
    have OB1 := Lib.hid (OB.out.below b1)
    clear o1 b1 hB3
    go_wp2_with fail
    refine (Gather_any _ a _ (HA.out.below W1) (by omega)).mono ?_
    rintro e y2 ⟨p2, r2, rfl, o2, G2, b2⟩
    have W2 := W1.trans (b2.mono W1.size)
    have O12 := Lib.hid (O1.out.below b2)
    have O2 := Lib.hid o2.ss
    have OB2 := Lib.hid (OB1.out.below b2)
    obtain rfl := G1.one G2
    clear o2 b2 W1 G1 G2
    go_wp2_with fail
    refine (Spans_any p1 p2 _ _ _ O12.out O2.out).mono ?_
    rintro e y3 ⟨rfl, b3⟩
    rw [eqSp_refl]
    have W3 := W2.trans (b3.mono W2.size)
    have OB3 := Lib.hid (OB2.out.below b3)
    clear b3 W2
    go_wp2_with fail
    refine (merge_any _ _ a b _ (HA.out.below W3) (HB.out.below W3) (by omega) (by omega) DA.out DB.out).mono ?_
    rintro e y4 ⟨p4, r4, rfl, o4, G4, b4⟩
    have W4 := W3.trans (b4.mono W3.size)
    have O4 := Lib.hid o4.ss
    have OB4 := Lib.hid (OB3.out.below b4)
    clear o4 b4 W3
    go_wp2_with fail
    refine (Gather_any v3 (a ++ b) _ OB4.out (by simp; omega)).mono ?_
    rintro e y5 ⟨p5, r5, rfl, o5, G5, b5⟩
    have W5 := W4.trans (b5.mono W4.size)
    have O45 := Lib.hid (O4.out.below b5)
    have O5 := Lib.hid o5.ss
    obtain rfl := G4.one G5
    clear o5 b5 W4 G4 G5
    go_wp2_with fail
    refine (Spans_any p4 p5 _ _ _ O45.out O5.out).mono ?_
    rintro e y6 ⟨rfl, b6⟩
    rw [eqSp_refl]
    have W6 := W5.trans (b6.mono W5.size)
    clear b6 W5
    go_wp2_with fail
    refine (of_any _ a i _ (HA.out.below W6) (by omega) DA.out).mono ?_
    rintro e y7 ⟨p7, r7, rfl, o7, G7, b7⟩
    have W7 := W6.trans (b7.mono W6.size)
    have O7 := Lib.hid o7.ss
    clear o7 b7 W6
    go_wp2_with fail
    refine (Of_any _ a i _ (HA.out.below W7) (by omega)).mono ?_
    rintro e y8 ⟨p8, r8, rfl, o8, G8, b8⟩
    have W8 := W7.trans (b8.mono W7.size)
    have O78 := Lib.hid (O7.out.below b8)
    have O8 := Lib.hid o8.ss
    obtain rfl := G7.one G8
    clear o8 b8 W7 G7 G8
    go_wp2_with fail
    refine (Spans_any p7 p8 _ _ _ O78.out O8.out).mono ?_
    rintro e y9 ⟨rfl, b9⟩
    rw [eqSp_refl]
    have W9 := W8.trans (b9.mono W8.size)
    go_wp2_with fail
    go_ret
    exact ⟨rfl, W9⟩

end Go.Proofs.Ytalljllloffieaa

/-
  CONTRACTS of the document's Sizes and Make (a block's objects and its meta). Conditions: at most 200 traces, 10000000 spans.
-/
import Derived.Test.YtnghpcfdgjkokaaGreatDoorBkE
namespace Go.Proofs.YtnghpcfdgjkokaaGreatDoor
open Go.RowKit
set_option maxRecDepth 100000

set_option maxHeartbeats 1600000 in
theorem DSizes_any (s : Sz) (w : World) : Calls Tryz.prog 11 #[szV s] w fun e w' => e = .returned (.bool (szB s)) ∧ Below w.heap.size w w' := by
  obtain ⟨pg, sh, bi, hs⟩ := s
  have HB0 : Hid (Below w.heap.size w (w.alloc (.cells #[.int .i64 pg, .int .i64 sh, .int .i64 bi, .int .i64 hs] 25))) := Lib.hid ((Below.refl _ _).alloc (Nat.le_refl _) _)
  have HS : Hid (szB ⟨pg, sh, bi, hs⟩ = (rightI sh bi hs && (decide (64 ≤ pg) && decide (pg ≤ 8192)))) := Lib.hid rfl
  have hR := fun u => Right_any sh bi hs u
  simp only [szV]
  cases hr : rightI sh bi hs with
  | false =>
    rw [hr] at hR HS
    go_enter Tryz.func11, Tryz.ntmps11
    go_wp2_with fail
    refine (hR _).mono ?_
    rintro e w1 ⟨rfl, rfl⟩
    go_wp2_with fail
    go_ret
    exact ⟨ret_bool (by rw [HS.out]; rfl), HB0.out⟩
  | true =>
    rw [hr] at hR HS
    by_cases h1 : 64 ≤ pg
    · by_cases h2 : pg ≤ 8192
      · go_enter Tryz.func11, Tryz.ntmps11
        go_wp2_with fail
        refine (hR _).mono ?_
        rintro e w1 ⟨rfl, rfl⟩
        go_wp2_with fail
        go_ret
        exact ⟨ret_bool (by rw [HS.out]; simp [h1, h2]), HB0.out⟩
      · go_enter Tryz.func11, Tryz.ntmps11
        go_wp2_with fail
        refine (hR _).mono ?_
        rintro e w1 ⟨rfl, rfl⟩
        go_wp2_with fail
        go_ret
        exact ⟨ret_bool (by rw [HS.out, decide_eq_false (show ¬ pg ≤ 8192 by omega), Bool.and_false, Bool.and_false]), HB0.out⟩
    · go_enter Tryz.func11, Tryz.ntmps11
      go_wp2_with fail
      refine (hR _).mono ?_
      rintro e w1 ⟨rfl, rfl⟩
      go_wp2_with fail
      go_ret
      exact ⟨ret_bool (by rw [HS.out, decide_eq_false (show ¬ 64 ≤ pg by omega), Bool.false_and, Bool.and_false]), HB0.out⟩

/-- spans' cells, in a row of the call's own -/
def SpR (w : World) (base : Nat) (v : Value) (l : List Sn) : Prop := ∃ xs, OwnL 5 w base 72 v xs ∧ Two (fun s x => s.ok ∧ ∃ d, x = spCells s d) l xs
section
variable {w u : World} {base : Nat} {v : Value} {l : List Sn} {bad : Nat → Prop}
theorem Own5.spR (h : Own5 w base v l) : SpR w base v l := by
  obtain ⟨xs, h1, h2⟩ := h
  refine ⟨xs, h1, h2.mono fun s x hx => ?_⟩
  obtain ⟨hok, d, he, _⟩ := hx
  exact ⟨hok, d, he⟩
theorem SpR.apt (h : SpR w base v l) (ha : Apt bad w u) (hb : ∀ q, v.ownBlock = some q → ¬ bad q) : SpR u base v l := by
  obtain ⟨xs, h1, h2⟩ := h
  exact ⟨xs, h1.apt ha hb, h2⟩
theorem SpR.below (h : SpR w base v l) (hb : Below w.heap.size w u) : SpR u base v l := h.apt (bad := fun _ => False) (Apt.of_below hb) fun _ _ h => h
theorem SpR.form (h : SpR w base v l) (hl : 0 < l.length) : ∃ g c, v = .slice (some ⟨g, 0, none⟩) l.length c ∧ l.length ≤ c ∧ c ≤ 9223372036854775807 ∧ base ≤ g ∧ g < w.heap.size := by
  obtain ⟨xs, h1, h2⟩ := h
  have e := h2.len
  rcases h1.1.2 with ⟨_, h0⟩ | ⟨g, cap, cur, hv, hb, hg, hn, hm, _⟩
  · omega
  · simp only [maxLen] at hm
    exact ⟨g, cap, by rw [hv, e], by omega, hm, hb, (Array.getElem?_eq_some_iff.1 hg).1⟩
theorem SpR.cells {g n c : Nat} (h : SpR w base (.slice (some ⟨g, 0, none⟩) n c) l) {i : Nat} {s : Sn} (hi : l[i]? = some s) :
    w.cell? ⟨g, i * 5, none⟩ = some (.int .u64 s.tr) ∧ w.cell? ⟨g, i * 5 + 2, none⟩ = some (.int .i64 s.st) ∧ w.cell? ⟨g, i * 5 + 3, none⟩ = some (.int .i64 s.en) ∧ s.ok := by
  obtain ⟨xs, h1, h2⟩ := h
  obtain ⟨x, hx, hok, d, rfl⟩ := h2.right hi
  obtain ⟨g', o, hA, hg, hc⟩ := h1.lv.cells (by omega) hx
  injection hA with hA
  injection hA with e1 e2
  subst e1 e2
  have c0 := hc 0 _ rfl
  have c2 := hc 2 _ rfl
  have c3 := hc 3 _ rfl
  simp only [Nat.zero_add, Nat.add_zero] at c0 c2 c3
  exact ⟨c0, c2, c3, hok⟩
end

end Go.Proofs.YtnghpcfdgjkokaaGreatDoor

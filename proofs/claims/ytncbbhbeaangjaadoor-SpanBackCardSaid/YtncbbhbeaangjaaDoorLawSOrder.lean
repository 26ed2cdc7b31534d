/-
  SpanOrder: for all three spans it returns true, and what is handed in reads as it did. Its walk. Condition: errors.errorType holds the handle of 'error' (Hd).
-/
import Derived.Test.YtncbbhbeaangjaaDoorSpanG
namespace Go.Proofs.YtncbbhbeaangjaaDoor
open Go.RowKit

theorem Blk.five {w : World} {g : Nat} {t : TypeId} {x0 x1 x2 x3 x4 : Value} (h : Blk w g t #[x0, x1, x2, x3, x4]) : w.cell? ⟨g, 0, none⟩ = some x0 ∧ w.cell? ⟨g, 1, none⟩ = some x1 ∧ w.cell? ⟨g, 2, none⟩ = some x2 ∧ w.cell? ⟨g, 3, none⟩ = some x3 ∧ w.cell? ⟨g, 4, none⟩ = some x4 :=
  ⟨h.cell 0, h.cell 1, h.cell 2, h.cell 3, h.cell 4⟩

theorem cmpI_neg (a b : Int) : cmpI b a = -cmpI a b := by
  unfold cmpI
  by_cases h1 : a < b
  · rw [if_pos h1, if_neg (by omega), if_pos h1]
    rfl
  · by_cases h2 : b < a
    · rw [if_pos h2, if_neg h1, if_pos h2]
    · rw [if_neg h2, if_neg h1, if_neg h1, if_neg h2]
      rfl
theorem orI_neg (a b c : Int) : orI (-a) (-b) (-c) = -orI a b c := by
  unfold orI
  by_cases h1 : a = 0
  · by_cases h2 : b = 0
    · simp [h1, h2]
    · simp [h1, h2]
  · simp [h1]
theorem cmpS_neg (a b : Sn) : cmpS b a = -cmpS a b := by
  unfold cmpS
  rw [cmpI_neg a.st b.st, cmpI_neg a.id b.id, cmpI_neg a.tr b.tr, orI_neg]
theorem cmpI_cases (a b : Int) : (a < b ∧ cmpI a b = -1) ∨ (b < a ∧ cmpI a b = 1) ∨ (a = b ∧ cmpI a b = 0) := by
  unfold cmpI
  by_cases h1 : a < b
  · exact .inl ⟨h1, if_pos h1⟩
  · by_cases h2 : b < a
    · exact .inr (.inl ⟨h2, by rw [if_neg h1, if_pos h2]⟩)
    · exact .inr (.inr ⟨by omega, by rw [if_neg h1, if_neg h2]⟩)
theorem cmpS_cases (a b : Sn) : ((a.st < b.st ∨ a.st = b.st ∧ (a.id < b.id ∨ a.id = b.id ∧ a.tr < b.tr)) ∧ cmpS a b = -1) ∨ ((b.st < a.st ∨ a.st = b.st ∧ (b.id < a.id ∨ a.id = b.id ∧ b.tr < a.tr)) ∧ cmpS a b = 1) ∨
    ((a.st = b.st ∧ a.id = b.id ∧ a.tr = b.tr) ∧ cmpS a b = 0) := by
  unfold cmpS orI
  rcases cmpI_cases a.st b.st with ⟨h1, e1⟩ | ⟨h1, e1⟩ | ⟨h1, e1⟩
  · exact .inl ⟨.inl h1, by rw [e1]; rfl⟩
  · exact .inr (.inl ⟨.inl h1, by rw [e1]; rfl⟩)
  · rcases cmpI_cases a.id b.id with ⟨h2, e2⟩ | ⟨h2, e2⟩ | ⟨h2, e2⟩
    · exact .inl ⟨.inr ⟨h1, .inl h2⟩, by rw [e1, e2]; rfl⟩
    · exact .inr (.inl ⟨.inr ⟨h1, .inl h2⟩, by rw [e1, e2]; rfl⟩)
    · rcases cmpI_cases a.tr b.tr with ⟨h3, e3⟩ | ⟨h3, e3⟩ | ⟨h3, e3⟩
      · exact .inl ⟨.inr ⟨h1, .inr ⟨h2, h3⟩⟩, by rw [e1, e2, e3]; rfl⟩
      · exact .inr (.inl ⟨.inr ⟨h1, .inr ⟨h2, h3⟩⟩, by rw [e1, e2, e3]; rfl⟩)
      · exact .inr (.inr ⟨⟨h1, h2, h3⟩, by rw [e1, e2, e3]; rfl⟩)
theorem cmpS_trans (a b c : Sn) (h1 : cmpS a b ≤ 0) (h2 : cmpS b c ≤ 0) : cmpS a c ≤ 0 := by
  have k1 := cmpS_cases a b
  have k2 := cmpS_cases b c
  have k3 := cmpS_cases a c
  generalize cmpS a b = x at *
  generalize cmpS b c = y at *
  generalize cmpS a c = z at *
  omega

set_option maxRecDepth 100000 in
set_option maxHeartbeats 3200000 in
theorem spanOrder_any (va vb vc : Value) (a b c : Sn) (w : World) (ha : SV w va a) (hb : SV w vb b) (hc : SV w vc c) (hd : Hd w) :
    Calls Tryd.prog 7 #[va, vb, vc] w fun e w' => e = .returned (.bool true) ∧ Below w.heap.size w w' := by
  have SA := Lib.hid ha
  have SB := Lib.hid hb
  have SC := Lib.hid hc
  obtain ⟨oa, da, rfl, ba⟩ := ha
  obtain ⟨ob, db, rfl, bb⟩ := hb
  obtain ⟨oc, dc, rfl, bc⟩ := hc
  clear oa ob oc ba bb bc
  go_enter Tryd.func7, Tryd.ntmps7
  go_wp2_with fail
  refine (up3_any _ (((hd.alloc _).alloc _).alloc _)).mono ?_
  rintro e w1 ⟨rfl, hb1⟩
  have hA := (((Blk.new w 25 #[.int .u64 a.tr, .int .u64 a.id, .int .i64 a.st, .int .i64 a.en, da]).alloc _).alloc _).below hb1 (by simp; omega)
  have hB := ((Blk.new _ 25 #[.int .u64 b.tr, .int .u64 b.id, .int .i64 b.st, .int .i64 b.en, db]).alloc _).below hb1 (by simp)
  have hC := (Blk.new _ 25 #[.int .u64 c.tr, .int .u64 c.id, .int .i64 c.st, .int .i64 c.en, dc]).below hb1 (by simp)
  simp only [World.size_alloc] at hB hC
  have hW : Below w.heap.size w w1 := ((((Below.refl w.heap.size w).alloc (Nat.le_refl _) _).alloc (by simp) _).alloc (by simp; omega) _).trans (hb1.mono (by simp; omega))
  clear hb1 hd
  obtain ⟨a0, a1, a2, a3, a4⟩ := hA.five
  obtain ⟨b0, b1, b2, b3, b4⟩ := hB.five
  obtain ⟨c0, c1, c2, c3, c4⟩ := hC.five
  go_wp2_with fail
  refine (compare_any _ _ a b _ (SA.out.below hW) (SB.out.below hW)).mono ?_
  rintro e w2 ⟨rfl, hbn⟩
  replace hA := hA.below hbn hA.lt
  replace hB := hB.below hbn hB.lt
  replace hC := hC.below hbn hC.lt
  replace hW := hW.trans (hbn.mono hW.size)
  clear hbn a0 a1 a2 a3 a4 b0 b1 b2 b3 b4 c0 c1 c2 c3 c4
  obtain ⟨a0, a1, a2, a3, a4⟩ := hA.five
  obtain ⟨b0, b1, b2, b3, b4⟩ := hB.five
  obtain ⟨c0, c1, c2, c3, c4⟩ := hC.five
  go_wp2_with fail
  refine (compare_any _ _ b c _ (SB.out.below hW) (SC.out.below hW)).mono ?_
  rintro e w3 ⟨rfl, hbn⟩
  replace hA := hA.below hbn hA.lt
  replace hB := hB.below hbn hB.lt
  replace hC := hC.below hbn hC.lt
  replace hW := hW.trans (hbn.mono hW.size)
  clear hbn a0 a1 a2 a3 a4 b0 b1 b2 b3 b4 c0 c1 c2 c3 c4
  obtain ⟨a0, a1, a2, a3, a4⟩ := hA.five
  obtain ⟨b0, b1, b2, b3, b4⟩ := hB.five
  obtain ⟨c0, c1, c2, c3, c4⟩ := hC.five
  go_wp2_with fail
  refine (compare_any _ _ a c _ (SA.out.below hW) (SC.out.below hW)).mono ?_
  rintro e w4 ⟨rfl, hbn⟩
  replace hA := hA.below hbn hA.lt
  replace hB := hB.below hbn hB.lt
  replace hC := hC.below hbn hC.lt
  replace hW := hW.trans (hbn.mono hW.size)
  clear hbn a0 a1 a2 a3 a4 b0 b1 b2 b3 b4 c0 c1 c2 c3 c4
  obtain ⟨a0, a1, a2, a3, a4⟩ := hA.five
  obtain ⟨b0, b1, b2, b3, b4⟩ := hB.five
  obtain ⟨c0, c1, c2, c3, c4⟩ := hC.five
  go_wp2_with fail
  refine (compare_any _ _ b a _ (SB.out.below hW) (SA.out.below hW)).mono ?_
  rintro e w5 ⟨rfl, hbn⟩
  replace hA := hA.below hbn hA.lt
  replace hB := hB.below hbn hB.lt
  replace hC := hC.below hbn hC.lt
  replace hW := hW.trans (hbn.mono hW.size)
  clear hbn a0 a1 a2 a3 a4 b0 b1 b2 b3 b4 c0 c1 c2 c3 c4
  rw [cmpS_neg a b]
  have k1 := cmpS_cases a b
  have k2 := cmpS_trans a b c
  have hx : cmpS a b = -1 ∨ cmpS a b = 0 ∨ cmpS a b = 1 := by omega
  have hy : cmpS b c = -1 ∨ cmpS b c = 0 ∨ cmpS b c = 1 := by have := cmpS_cases b c; omega
  have hz : cmpS a c = -1 ∨ cmpS a c = 0 ∨ cmpS a c = 1 := by have := cmpS_cases a c; omega
  obtain ⟨a0, a1, a2, a3, a4⟩ := hA.five
  obtain ⟨b0, b1, b2, b3, b4⟩ := hB.five
  clear hA hB hC a3 a4 b3 b4
  have HK1 := Lib.hid k1
  have HK2 := Lib.hid k2
  clear k1 k2
  generalize cmpS a b = x at *
  generalize cmpS b c = y at *
  generalize cmpS a c = z at *
  have hyz : x ≤ 0 → y ≤ 0 → z ≤ 0 := HK2.out
  by_cases e1 : a.st = b.st
  · by_cases e2 : a.id = b.id
    · by_cases e3 : a.tr = b.tr
      · have hx0 : x = 0 := by have := HK1.out; omega
        have q1 : (a.st == b.st) = true := by simpa using e1
        have q2 : (a.id == b.id) = true := by simpa using e2
        have q3 : (a.tr == b.tr) = true := by simpa using e3
        subst hx0
        clear hx HK1 e1 e2 e3 HK2
        rcases hy with rfl | rfl | rfl
        · have hz0 : ¬ 0 < z := by omega
          clear hyz hz
          go_wp2_with fail
          go_ret
          exact ⟨rfl, hW⟩
        · have hz0 : ¬ 0 < z := by omega
          clear hyz hz
          go_wp2_with fail
          go_ret
          exact ⟨rfl, hW⟩
        · clear hyz hz
          go_wp2_with fail
          go_ret
          exact ⟨rfl, hW⟩
      · have q1 : (a.st == b.st) = true := by simpa using e1
        have q2 : (a.id == b.id) = true := by simpa using e2
        have q3 : (a.tr == b.tr) = false := by simpa using e3
        have hx' : x = -1 ∨ x = 1 := by have := HK1.out; omega
        clear hx HK1 HK2 e1 e2 e3
        rcases hx' with rfl | rfl
        · rcases hy with rfl | rfl | rfl
          · have hz0 : ¬ 0 < z := by omega
            clear hyz hz
            go_wp2_with fail
            go_ret
            exact ⟨rfl, hW⟩
          · have hz0 : ¬ 0 < z := by omega
            clear hyz hz
            go_wp2_with fail
            go_ret
            exact ⟨rfl, hW⟩
          · clear hyz hz
            go_wp2_with fail
            go_ret
            exact ⟨rfl, hW⟩
        · clear hyz hz hy
          go_wp2_with fail
          go_ret
          exact ⟨rfl, hW⟩
    · have q1 : (a.st == b.st) = true := by simpa using e1
      have q2 : (a.id == b.id) = false := by simpa using e2
      have hx' : x = -1 ∨ x = 1 := by have := HK1.out; omega
      clear hx HK1 HK2 e1 e2
      rcases hx' with rfl | rfl
      · rcases hy with rfl | rfl | rfl
        · have hz0 : ¬ 0 < z := by omega
          clear hyz hz
          go_wp2_with fail
          go_ret
          exact ⟨rfl, hW⟩
        · have hz0 : ¬ 0 < z := by omega
          clear hyz hz
          go_wp2_with fail
          go_ret
          exact ⟨rfl, hW⟩
        · clear hyz hz
          go_wp2_with fail
          go_ret
          exact ⟨rfl, hW⟩
      · clear hyz hz hy
        go_wp2_with fail
        go_ret
        exact ⟨rfl, hW⟩
  · have q1 : (a.st == b.st) = false := by simpa using e1
    have hx' : x = -1 ∨ x = 1 := by have := HK1.out; omega
    clear hx HK1 HK2 e1
    rcases hx' with rfl | rfl
    · rcases hy with rfl | rfl | rfl
      · have hz0 : ¬ 0 < z := by omega
        clear hyz hz
        go_wp2_with fail
        go_ret
        exact ⟨rfl, hW⟩
      · have hz0 : ¬ 0 < z := by omega
        clear hyz hz
        go_wp2_with fail
        go_ret
        exact ⟨rfl, hW⟩
      · clear hyz hz
        go_wp2_with fail
        go_ret
        exact ⟨rfl, hW⟩
    · clear hyz hz hy
      go_wp2_with fail
      go_ret
      exact ⟨rfl, hW⟩

end Go.Proofs.YtncbbhbeaangjaaDoor

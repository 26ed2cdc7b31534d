/-
  CONTRACTS of the program's block.May, told, filtered, indexed. Conditions: what each says.
-/
import Derived.Test.YtnghpcfdgjkokaaGreatDoorBkA
import Derived.Test.YtnghpcfdgjkokaaGreatDoorMtD
namespace Go.Proofs.YtnghpcfdgjkokaaGreatDoor
open Go.RowKit
set_option maxRecDepth 100000

theorem bkAmong_any (n a m : Int) (w : World) : Calls Tryz.prog 29 #[.int .i64 n, .int .i64 a, .int .i64 m] w fun e w' => e = .returned (.bool (decide (a ≤ n) && decide (n ≤ m))) ∧ w = w' := by
  by_cases h1 : a ≤ n
  · by_cases h2 : n ≤ m
    · go_enter Tryz.func29, Tryz.ntmps29
      go_wp2_with fail
      go_ret
      exact ⟨ret_bool (by simp [h1, h2]), rfl⟩
    · go_enter Tryz.func29, Tryz.ntmps29
      go_wp2_with fail
      go_ret
      exact ⟨ret_bool (by simp [h2]), rfl⟩
  · have HN : Hid ((decide (a ≤ n) && decide (n ≤ m)) = false) := Lib.hid (by rw [decide_eq_false h1, Bool.false_and])
    go_enter Tryz.func29, Tryz.ntmps29
    go_wp2_with fail
    go_ret
    exact ⟨ret_bool HN.out.symm, rfl⟩

set_option maxHeartbeats 1600000 in
theorem bmay_any (s : Sz) (w : World) : Calls Tryz.prog 10 #[szV s] w fun e w' => e = .returned (.bool (szB s)) ∧ Below w.heap.size w w' := by
  obtain ⟨pg, sh, bi, hs⟩ := s
  have HB0 : Hid (Below w.heap.size w (w.alloc (.cells #[.int .i64 pg, .int .i64 sh, .int .i64 bi, .int .i64 hs] 25))) := Lib.hid ((Below.refl _ _).alloc (Nat.le_refl _) _)
  have hm0 := Blk.new w 25 #[.int .i64 pg, .int .i64 sh, .int .i64 bi, .int .i64 hs]
  have HM0 := Lib.hid hm0
  clear hm0
  cases hR : rightI sh bi hs with
  | false =>
    have HNb := Lib.hid (fun u : World => bnew_bad u hR)
    have HS : Hid (szB ⟨pg, sh, bi, hs⟩ = false) := Lib.hid (by simp [szB, hR])
    clear hR
    simp only [szV]
    go_enter Tryz.func10, Tryz.ntmps10
    go_wp2_with fail
    refine (HNb.out _).mono ?_
    rintro e w1 ⟨rfl, hb1⟩
    have HB1 := Lib.hid (HB0.out.trans (hb1.mono HB0.out.size))
    clear hb1
    go_wp2_with fail
    go_ret
    exact ⟨ret_bool HS.out.symm, HB1.out⟩
  | true =>
    obtain ⟨r1, r2, r3, r4, r5, r6, r7⟩ := rightI_iff.1 hR
    obtain ⟨sh, rfl⟩ := nat_of (n := sh) (by omega)
    obtain ⟨bi, rfl⟩ := nat_of (n := bi) (by omega)
    obtain ⟨hs, rfl⟩ := nat_of (n := hs) (by omega)
    have HNw := Lib.hid (fun u : World => bnew_ok u hR)
    have HS : Hid (szB ⟨pg, sh, bi, hs⟩ = (decide (64 ≤ pg) && decide (pg ≤ 8192))) := Lib.hid (by simp [szB, hR])
    clear hR r1 r2 r3 r4 r5 r6 r7
    simp only [szV]
    go_enter Tryz.func10, Tryz.ntmps10
    go_wp2_with fail
    refine (HNw.out _).mono ?_
    rintro e w1 ⟨g, F, rfl, _, hb1, _⟩
    have HB1 := Lib.hid (HB0.out.trans (hb1.mono HB0.out.size))
    have hm1 := HM0.out.below hb1 HM0.out.lt
    have c0 := hm1.cell 0
    simp at c0
    clear hb1 hm1 HM0 HB0
    go_wp2_with fail
    refine (bkAmong_any pg 64 8192 _).mono ?_
    rintro e w2 ⟨rfl, rfl⟩
    go_wp2_with fail
    go_ret
    exact ⟨ret_bool HS.out.symm, HB1.out⟩

theorem flatT_take_succ {l : List Tn} {k : Nat} {t : Tn} (h : l[k]? = some t) : flatT (l.take (k + 1)) = flatT (l.take k) ++ t.sp := by
  rw [take_snoc_at h, flatT, List.flatMap_append]
  simp [flatT]

/-- while a meta is told of: it lies in the block g8 -/
structure TdM (w : World) (g6 g8 : Nat) (id lv a b n : Int) (u : World) : Prop where
  res : Blk u g6 30 #[.int .u64 0, .int .i64 0, .int .i64 0, .int .i64 0, .int .i64 0, .int .i64 0]
  m : Blk u g8 30 #[.int .u64 id, .int .i64 lv, .int .i64 a, .int .i64 b, .int .i64 0, .int .i64 n]
  bel : Below w.heap.size w u
  h6 : w.heap.size ≤ g6
  h8 : w.heap.size ≤ g8
  ne : g6 ≠ g8
section
variable {w u : World} {g6 g8 : Nat} {id lv a b n : Int}
theorem TdM.alloc (h : TdM w g6 g8 id lv a b n u) (o : Obj) : TdM w g6 g8 id lv a b n (u.alloc o) := ⟨h.res.alloc o, h.m.alloc o, h.bel.alloc h.bel.size o, h.h6, h.h8, h.ne⟩
theorem TdM.set2 (h : TdM w g6 g8 id lv a b n u) (a' : Int) : TdM w g6 g8 id lv a' b n (u.setCell ⟨g8, 2, none⟩ (.int .i64 a')) :=
  ⟨h.res.far (p := ⟨g8, 2, none⟩) h.ne _, h.m.set_ 2 _, h.bel.grown (grown_set u g8 2 _) h.bel.size (by intro k hk; injection hk with hk; have := h.h8; omega), h.h6, h.h8, h.ne⟩
theorem TdM.set3 (h : TdM w g6 g8 id lv a b n u) (b' : Int) : TdM w g6 g8 id lv a b' n (u.setCell ⟨g8, 3, none⟩ (.int .i64 b')) :=
  ⟨h.res.far (p := ⟨g8, 3, none⟩) h.ne _, h.m.set_ 3 _, h.bel.grown (grown_set u g8 3 _) h.bel.size (by intro k hk; injection hk with hk; have := h.h8; omega), h.h6, h.h8, h.ne⟩
end

set_option maxHeartbeats 6400000 in
theorem told_any (id : Nat) (lv : Int) (v : Value) (l : List Tn) (w : World) (h : Ts w v l) (hIs : IsT l) (hne : l ≠ []) :
    Calls Tryz.prog 31 #[.int .u64 (id : Int), .int .i64 lv, v] w fun e w' => e = .returned (meV ⟨(id : Int), lv, stM (flatT l), enM (flatT l), 0, (l.length : Nat)⟩) ∧ Below w.heap.size w w' := by
  obtain ⟨t0, l', x0, r, hl0, hs0, hf⟩ := isT_first hIs hne
  obtain ⟨A, c, rfl, hc1, hc2⟩ := h.form
  have H := Lib.hid h
  have HE : Hid (stM (flatT l) = stF x0.st (flatT l) ∧ enM (flatT l) = enF x0.en (flatT l)) := Lib.hid (by rw [hf]; exact ⟨rfl, rfl⟩)
  have hk0 : l[0]? = some t0 := by rw [hl0]; rfl
  have hj0 : t0.sp[0]? = some x0 := by rw [hs0]; rfl
  obtain ⟨g, o, d, rfl, hg, _, d1, hd, _⟩ := H.out.cells hk0
  obtain ⟨Ad, cd, rfl, _, _⟩ := hd.form
  obtain ⟨q, p, dd, rfl, hq, e0, e1, e2, e3, e4, hdd, _⟩ := hd.cells hj0
  obtain ⟨Adx, cdx, rfl, _, _, _⟩ := hdd
  have hlp : 0 < l.length := by rw [hl0]; simp
  have hsp : 0 < t0.sp.length := by rw [hs0]; simp
  simp only [Nat.zero_mul, Nat.add_zero] at d1 e0 e1 e2 e3 e4
  have hb1 : Below w.heap.size w (w.alloc (.cells #[.int .u64 0, .int .i64 0, .int .i64 0, .int .i64 0, .int .i64 0, .int .i64 0] 30)) := (Below.refl _ _).alloc (Nat.le_refl _) _
  clear h hne hIs hf hl0 hs0 hk0 hj0 hd
  go_enter Tryz.func31, Tryz.ntmps31
  go_wp2_with fail
  have HT0 : Hid (TdM w w.heap.size (w.heap.size + 1 + 1) (id : Int) lv x0.st x0.en (l.length : Int) (((w.alloc (.cells #[.int .u64 0, .int .i64 0, .int .i64 0, .int .i64 0, .int .i64 0, .int .i64 0] 30)).alloc (.cells #[.int .u64 x0.tr, .int .u64 x0.id, .int .i64 x0.st, .int .i64 x0.en, .slice Adx x0.data.length cdx] 72)).alloc (.cells #[.int .u64 (id : Int), .int .i64 lv, .int .i64 x0.st, .int .i64 x0.en, .int .i64 0, .int .i64 (l.length : Int)] 30))) := Lib.hid
    ⟨((Blk.new w _ _).alloc _).alloc _, by simpa using Blk.new ((w.alloc (.cells #[.int .u64 0, .int .i64 0, .int .i64 0, .int .i64 0, .int .i64 0, .int .i64 0] 30)).alloc (.cells #[.int .u64 x0.tr, .int .u64 x0.id, .int .i64 x0.st, .int .i64 x0.en, .slice Adx x0.data.length cdx] 72)) 30 #[.int .u64 (id : Int), .int .i64 lv, .int .i64 x0.st, .int .i64 x0.en, .int .i64 0, .int .i64 (l.length : Int)], (hb1.alloc (by simp) _).alloc (by simp; omega) _, Nat.le_refl _, by omega, by omega⟩
  revert HT0
  generalize (((w.alloc (.cells #[.int .u64 0, .int .i64 0, .int .i64 0, .int .i64 0, .int .i64 0, .int .i64 0] 30)).alloc (.cells #[.int .u64 x0.tr, .int .u64 x0.id, .int .i64 x0.st, .int .i64 x0.en, .slice Adx x0.data.length cdx] 72)).alloc (.cells #[.int .u64 (id : Int), .int .i64 lv, .int .i64 x0.st, .int .i64 x0.en, .int .i64 0, .int .i64 (l.length : Int)] 30)) = w3
  obtain ⟨g6, hg6⟩ : ∃ n, n = w.heap.size := ⟨_, rfl⟩
  obtain ⟨g8, hg8⟩ : ∃ n, n = w.heap.size + 1 + 1 := ⟨_, rfl⟩
  rw [← hg8, ← hg6]
  intro HT0
  clear hg6 hg8 hb1 d1 e0 e1 e2 e3 e4
  go_loopg [30] l.length (fun gk iv wr => ∃ k : Nat, k + gk = l.length ∧ iv = .int .i64 (k : Int) ∧ Hid (TdM w g6 g8 (id : Int) lv (stF x0.st (flatT (l.take k))) (enF x0.en (flatT (l.take k))) (l.length : Int) wr))
  case atStart => exact ⟨0, by omega, rfl, HT0⟩
  case round =>
    obtain ⟨k, hk, rfl, HT⟩ := hrel
    clear HT0
    by_cases hlt : k < l.length
    · obtain ⟨gk1, hgk1⟩ : ∃ x, gk = x + 1 := ⟨gk - 1, by omega⟩
      obtain ⟨t, hkt⟩ : ∃ t, l[k]? = some t := ⟨_, List.getElem?_eq_getElem hlt⟩
      obtain ⟨z, oz, dz, hA, hz, c0, c1, hd, i0, i1⟩ := H.out.cells hkt
      injection hA with hA
      injection hA with ea eb
      subst ea eb
      have d0 := (HT.out.bel.cell (p := ⟨g, o + k * 2, none⟩) hz).trans c0
      have d1 := (HT.out.bel.cell (p := ⟨g, o + k * 2 + 1, none⟩) hz).trans c1
      obtain ⟨Az, cz, rfl, _, _⟩ := hd.form
      have HD := Lib.hid hd
      have HS := Lib.hid (flatT_take_succ hkt)
      have HT1 := Lib.hid (HT.out.alloc (.cells #[.int .u64 t.id, .slice Az t.sp.length cz] 75))
      have hkb := HT.out.m.lt
      clear hkt c0 c1 hd
      go_wp2_with fail
      revert HT1
      generalize wr.alloc (.cells #[.int .u64 t.id, .slice Az t.sp.length cz] 75) = w4
      intro HT1
      clear d0 d1 HT
      go_loopg [37] t.sp.length (fun gk jv wr => ∃ j : Nat, j + gk = t.sp.length ∧ jv = .int .i64 (j : Int) ∧ Hid (TdM w g6 g8 (id : Int) lv (stF x0.st (flatT (l.take k) ++ t.sp.take j)) (enF x0.en (flatT (l.take k) ++ t.sp.take j)) (l.length : Int) wr))
      case atStart => exact ⟨0, by omega, rfl, by simpa using HT1⟩
      case round =>
        obtain ⟨j, hj, rfl, HQ⟩ := hrel
        clear HT1
        by_cases hjt : j < t.sp.length
        · obtain ⟨gj1, hgj1⟩ : ∃ x, gk = x + 1 := ⟨gk - 1, by omega⟩
          obtain ⟨x, hjx⟩ : ∃ x, t.sp[j]? = some x := ⟨_, List.getElem?_eq_getElem hjt⟩
          obtain ⟨y, oy, dy, rfl, hy, y0, y1, y2, y3, y4, hdy, _⟩ := HD.out.cells hjx
          obtain ⟨Ay, cy, rfl, _, _, _⟩ := hdy
          have z0 := (HQ.out.bel.cell (p := ⟨y, oy + j * 5, none⟩) hy).trans y0
          have z1 := (HQ.out.bel.cell (p := ⟨y, oy + j * 5 + 1, none⟩) hy).trans y1
          have z2 := (HQ.out.bel.cell (p := ⟨y, oy + j * 5 + 2, none⟩) hy).trans y2
          have z3 := (HQ.out.bel.cell (p := ⟨y, oy + j * 5 + 3, none⟩) hy).trans y3
          have z4 := (HQ.out.bel.cell (p := ⟨y, oy + j * 5 + 4, none⟩) hy).trans y4
          have hfz := fun i => HQ.out.m.frozen i
          have m2 := HQ.out.m.cell 2
          have m3 := HQ.out.m.cell 3
          simp at m2 m3
          have hgl := HQ.out.m.lt
          have HST : Hid (stF x0.st (flatT (l.take k) ++ t.sp.take (j + 1)) = min (stF x0.st (flatT (l.take k) ++ t.sp.take j)) x.st) := Lib.hid (by rw [take_snoc_at hjx, ← List.append_assoc, stF_snoc])
          have HEN : Hid (enF x0.en (flatT (l.take k) ++ t.sp.take (j + 1)) = max (enF x0.en (flatT (l.take k) ++ t.sp.take j)) x.en) := Lib.hid (by rw [take_snoc_at hjx, ← List.append_assoc, enF_snoc])
          have HQ2 : Hid (TdM w g6 g8 (id : Int) lv (stF x0.st (flatT (l.take k) ++ t.sp.take (j + 1))) (enF x0.en (flatT (l.take k) ++ t.sp.take (j + 1))) (l.length : Int) (((wr.setCell ⟨g8, 2, none⟩ (.int .i64 (min (stF x0.st (flatT (l.take k) ++ t.sp.take j)) x.st))).setCell ⟨g8, 3, none⟩ (.int .i64 (max (enF x0.en (flatT (l.take k) ++ t.sp.take j)) x.en))).alloc (.cells #[.int .u64 x.tr, .int .u64 x.id, .int .i64 x.st, .int .i64 x.en, .slice Ay x.data.length cy] 72))) := Lib.hid (by
            rw [HST.out, HEN.out]
            exact ((HQ.out.set2 _).set3 _).alloc _)
          clear hjx y0 y1 y2 y3 y4 HQ
          go_wp2_with fail
          go_roundg gj1
          case measure => omega
          case rel => exact ⟨j + 1, by omega, by go_num, HQ2⟩
        · have hjn : j = t.sp.length := by omega
          subst hjn
          have HQ1 : Hid (TdM w g6 g8 (id : Int) lv (stF x0.st (flatT (l.take (k + 1)))) (enF x0.en (flatT (l.take (k + 1)))) (l.length : Int) wr) := Lib.hid (by
            have := HQ.out
            rw [List.take_length, ← HS.out] at this
            exact this)
          clear HQ
          go_wp2_with fail
          go_roundg gk1
          case measure => omega
          case rel => exact ⟨k + 1, by omega, by go_num, HQ1⟩
    · have hkn : k = l.length := by omega
      subst hkn
      have HQ : Hid (TdM w g6 g8 (id : Int) lv (stM (flatT l)) (enM (flatT l)) (l.length : Int) wr) := Lib.hid (by
        have := HT.out
        rw [List.take_length, ← HE.out.1, ← HE.out.2] at this
        exact this)
      clear HT
      have hfz := fun i => HQ.out.res.frozen i
      have m0 := HQ.out.m.cell 0
      have m1 := HQ.out.m.cell 1
      have m2 := HQ.out.m.cell 2
      have m3 := HQ.out.m.cell 3
      have m4 := HQ.out.m.cell 4
      have m5 := HQ.out.m.cell 5
      have r0 := HQ.out.res.cell 0
      have r1 := HQ.out.res.cell 1
      have r2 := HQ.out.res.cell 2
      have r3 := HQ.out.res.cell 3
      have r4 := HQ.out.res.cell 4
      have r5 := HQ.out.res.cell 5
      simp at m0 m1 m2 m3 m4 m5 r0 r1 r2 r3 r4 r5
      go_wp2_with fail
      have hm2 := setall6 g6 HQ.out.res (.int .u64 (id : Int)) (.int .i64 lv) (.int .i64 (stM (flatT l))) (.int .i64 (enM (flatT l))) (.int .i64 0) (.int .i64 (l.length : Int))
      have hg2 := gset6 wr g6 (.int .u64 (id : Int)) (.int .i64 lv) (.int .i64 (stM (flatT l))) (.int .i64 (enM (flatT l))) (.int .i64 0) (.int .i64 (l.length : Int))
      refine bodyPost_ret (v := meV ⟨(id : Int), lv, stM (flatT l), enM (flatT l), 0, (l.length : Nat)⟩) (by have c := hm2.cell; simp [results, go_sem, c]; try rfl) rfl ?_
      exact ⟨rfl, HQ.out.bel.grown hg2 HQ.out.bel.size (by intro z hz; injection hz with hz; have := HQ.out.h6; omega)⟩

end Go.Proofs.YtnghpcfdgjkokaaGreatDoor

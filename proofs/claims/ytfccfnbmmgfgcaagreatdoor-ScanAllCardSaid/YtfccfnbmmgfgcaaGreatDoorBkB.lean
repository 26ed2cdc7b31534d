/-
  CONTRACTS of the program's block.May, told, filtered, indexed. Conditions: what each says.
  CONTRACTS of the program's block.indexed, filtered, objects, Make: what is put of a block. Conditions: what each says; of the library's tables: Ld.
  CONTRACTS of the program's block.objects: what is put of a block. Conditions: what each says; of the library's tables: Ld.
  CONTRACT of the program's block.Make. Conditions: at most 200 traces; of the library's tables: Ld.
-/
import Derived.Test.YtfccfnbmmgfgcaaGreatDoorBkA
import Derived.Test.YtfccfnbmmgfgcaaGreatDoorMtA
namespace Go.Proofs.YtfccfnbmmgfgcaaGreatDoor
open Go.RowKit
set_option maxRecDepth 100000

theorem bkAmong_any (n a m : Int) (w : World) : Calls Tryz.prog 61 #[.int .i64 n, .int .i64 a, .int .i64 m] w fun e w' => e = .returned (.bool (decide (a ≤ n) && decide (n ≤ m))) ∧ w = w' := by
  by_cases h1 : a ≤ n
  · by_cases h2 : n ≤ m
    · go_enter Tryz.func61, Tryz.ntmps61
      go_wp2_with fail
      go_ret
      exact ⟨ret_bool (by simp [h1, h2]), rfl⟩
    · go_enter Tryz.func61, Tryz.ntmps61
      go_wp2_with fail
      go_ret
      exact ⟨ret_bool (by simp [h2]), rfl⟩
  · have HN : Hid ((decide (a ≤ n) && decide (n ≤ m)) = false) := Lib.hid (by rw [decide_eq_false h1, Bool.false_and])
    go_enter Tryz.func61, Tryz.ntmps61
    go_wp2_with fail
    go_ret
    exact ⟨ret_bool HN.out.symm, rfl⟩

set_option maxHeartbeats 1600000 in
theorem bmay_any (s : Sz) (w : World) : Calls Tryz.prog 60 #[szV s] w fun e w' => e = .returned (.bool (szB s)) ∧ Below w.heap.size w w' := by
  obtain ⟨pg, sh, bi, hs⟩ := s
  have HB0 : Hid (Below w.heap.size w (w.alloc (.cells #[.int .i64 pg, .int .i64 sh, .int .i64 bi, .int .i64 hs] 25))) := Lib.hid ((Below.refl _ _).alloc (Nat.le_refl _) _)
  have hm0 := Blk.new w 25 #[.int .i64 pg, .int .i64 sh, .int .i64 bi, .int .i64 hs]
  have HM0 := Lib.hid hm0
  clear hm0
  cases hR : rightI sh bi hs with
  | false =>
    have HNb := Lib.hid (fun u : World => bnew_bad u hR)
    have HS : Hid (szB ⟨pg, sh, bi, hs⟩ = false) := Lib.hid (by simp [szB, hR])
    clear hR
    simp only [szV]
    go_enter Tryz.func60, Tryz.ntmps60
    go_wp2_with fail
    refine (HNb.out _).mono ?_
    rintro e w1 ⟨rfl, hb1⟩
    have HB1 := Lib.hid (HB0.out.trans (hb1.mono HB0.out.size))
    clear hb1
    go_wp2_with fail
    go_ret
    exact ⟨ret_bool HS.out.symm, HB1.out⟩
  | true =>
    obtain ⟨r1, r2, r3, r4, r5, r6, r7⟩ := rightI_iff.1 hR
    obtain ⟨sh, rfl⟩ := nat_of (n := sh) (by omega)
    obtain ⟨bi, rfl⟩ := nat_of (n := bi) (by omega)
    obtain ⟨hs, rfl⟩ := nat_of (n := hs) (by omega)
    have HNw := Lib.hid (fun u : World => bnew_ok u hR)
    have HS : Hid (szB ⟨pg, sh, bi, hs⟩ = (decide (64 ≤ pg) && decide (pg ≤ 8192))) := Lib.hid (by simp [szB, hR])
    clear hR r1 r2 r3 r4 r5 r6 r7
    simp only [szV]
    go_enter Tryz.func60, Tryz.ntmps60
    go_wp2_with fail
    refine (HNw.out _).mono ?_
    rintro e w1 ⟨g, F, rfl, _, hb1, _⟩
    have HB1 := Lib.hid (HB0.out.trans (hb1.mono HB0.out.size))
    have hm1 := HM0.out.below hb1 HM0.out.lt
    have c0 := hm1.cell 0
    simp at c0
    clear hb1 hm1 HM0 HB0
    go_wp2_with fail
    refine (bkAmong_any pg 64 8192 _).mono ?_
    rintro e w2 ⟨rfl, rfl⟩
    go_wp2_with fail
    go_ret
    exact ⟨ret_bool HS.out.symm, HB1.out⟩

theorem flatT_take_succ {l : List Tn} {k : Nat} {t : Tn} (h : l[k]? = some t) : flatT (l.take (k + 1)) = flatT (l.take k) ++ t.sp := by
  rw [take_snoc_at h, flatT, List.flatMap_append]
  simp [flatT]

structure TdM (w : World) (g6 g8 : Nat) (id lv a b n : Int) (u : World) : Prop where
  res : Blk u g6 62 #[.int .u64 0, .int .i64 0, .int .i64 0, .int .i64 0, .int .i64 0, .int .i64 0]
  m : Blk u g8 62 #[.int .u64 id, .int .i64 lv, .int .i64 a, .int .i64 b, .int .i64 0, .int .i64 n]
  bel : Below w.heap.size w u
  h6 : w.heap.size ≤ g6
  h8 : w.heap.size ≤ g8
  ne : g6 ≠ g8
section
variable {w u : World} {g6 g8 : Nat} {id lv a b n : Int}
theorem TdM.alloc (h : TdM w g6 g8 id lv a b n u) (o : Obj) : TdM w g6 g8 id lv a b n (u.alloc o) := ⟨h.res.alloc o, h.m.alloc o, h.bel.alloc h.bel.size o, h.h6, h.h8, h.ne⟩
theorem TdM.set2 (h : TdM w g6 g8 id lv a b n u) (a' : Int) : TdM w g6 g8 id lv a' b n (u.setCell ⟨g8, 2, none⟩ (.int .i64 a')) :=
  ⟨h.res.far (p := ⟨g8, 2, none⟩) h.ne _, h.m.set_ 2 _, h.bel.grown (grown_set u g8 2 _) h.bel.size (by intro k hk; injection hk with hk; have := h.h8; omega), h.h6, h.h8, h.ne⟩
theorem TdM.set3 (h : TdM w g6 g8 id lv a b n u) (b' : Int) : TdM w g6 g8 id lv a b' n (u.setCell ⟨g8, 3, none⟩ (.int .i64 b')) :=
  ⟨h.res.far (p := ⟨g8, 3, none⟩) h.ne _, h.m.set_ 3 _, h.bel.grown (grown_set u g8 3 _) h.bel.size (by intro k hk; injection hk with hk; have := h.h8; omega), h.h6, h.h8, h.ne⟩
end

set_option maxHeartbeats 6400000 in
theorem told_any (id : Nat) (lv : Int) (v : Value) (l : List Tn) (w : World) (h : Ts w v l) (hIs : IsT l) (hne : l ≠ []) :
    Calls Tryz.prog 63 #[.int .u64 (id : Int), .int .i64 lv, v] w fun e w' => e = .returned (meV ⟨(id : Int), lv, stM (flatT l), enM (flatT l), 0, (l.length : Nat)⟩) ∧ Below w.heap.size w w' := by
  obtain ⟨t0, l', x0, r, hl0, hs0, hf⟩ := isT_first hIs hne
  obtain ⟨A, c, rfl, hc1, hc2⟩ := h.form
  have H := Lib.hid h
  have HE : Hid (stM (flatT l) = stF x0.st (flatT l) ∧ enM (flatT l) = enF x0.en (flatT l)) := Lib.hid (by rw [hf]; exact ⟨rfl, rfl⟩)
  have hk0 : l[0]? = some t0 := by rw [hl0]; rfl
  have hj0 : t0.sp[0]? = some x0 := by rw [hs0]; rfl
  obtain ⟨g, o, d, rfl, hg, _, d1, hd, _⟩ := H.out.cells hk0
  obtain ⟨Ad, cd, rfl, _, _⟩ := hd.form
  obtain ⟨q, p, dd, rfl, hq, e0, e1, e2, e3, e4, hdd, _⟩ := hd.cells hj0
  obtain ⟨Adx, cdx, rfl, _, _, _⟩ := hdd
  have hlp : 0 < l.length := by rw [hl0]; simp
  have hsp : 0 < t0.sp.length := by rw [hs0]; simp
  simp only [Nat.zero_mul, Nat.add_zero] at d1 e0 e1 e2 e3 e4
  have hb1 : Below w.heap.size w (w.alloc (.cells #[.int .u64 0, .int .i64 0, .int .i64 0, .int .i64 0, .int .i64 0, .int .i64 0] 62)) := (Below.refl _ _).alloc (Nat.le_refl _) _
  clear h hne hIs hf hl0 hs0 hk0 hj0 hd
  go_enter Tryz.func63, Tryz.ntmps63
  go_wp2_with fail
  have HT0 : Hid (TdM w w.heap.size (w.heap.size + 1 + 1) (id : Int) lv x0.st x0.en (l.length : Int) (((w.alloc (.cells #[.int .u64 0, .int .i64 0, .int .i64 0, .int .i64 0, .int .i64 0, .int .i64 0] 62)).alloc (.cells #[.int .u64 x0.tr, .int .u64 x0.id, .int .i64 x0.st, .int .i64 x0.en, .slice Adx x0.data.length cdx] 87)).alloc (.cells #[.int .u64 (id : Int), .int .i64 lv, .int .i64 x0.st, .int .i64 x0.en, .int .i64 0, .int .i64 (l.length : Int)] 62))) := Lib.hid
    ⟨((Blk.new w _ _).alloc _).alloc _, by simpa using Blk.new ((w.alloc (.cells #[.int .u64 0, .int .i64 0, .int .i64 0, .int .i64 0, .int .i64 0, .int .i64 0] 62)).alloc (.cells #[.int .u64 x0.tr, .int .u64 x0.id, .int .i64 x0.st, .int .i64 x0.en, .slice Adx x0.data.length cdx] 87)) 62 #[.int .u64 (id : Int), .int .i64 lv, .int .i64 x0.st, .int .i64 x0.en, .int .i64 0, .int .i64 (l.length : Int)], (hb1.alloc (by simp) _).alloc (by simp; omega) _, Nat.le_refl _, by omega, by omega⟩
  revert HT0
  generalize (((w.alloc (.cells #[.int .u64 0, .int .i64 0, .int .i64 0, .int .i64 0, .int .i64 0, .int .i64 0] 62)).alloc (.cells #[.int .u64 x0.tr, .int .u64 x0.id, .int .i64 x0.st, .int .i64 x0.en, .slice Adx x0.data.length cdx] 87)).alloc (.cells #[.int .u64 (id : Int), .int .i64 lv, .int .i64 x0.st, .int .i64 x0.en, .int .i64 0, .int .i64 (l.length : Int)] 62)) = w3
  obtain ⟨g6, hg6⟩ : ∃ n, n = w.heap.size := ⟨_, rfl⟩
  obtain ⟨g8, hg8⟩ : ∃ n, n = w.heap.size + 1 + 1 := ⟨_, rfl⟩
  rw [← hg8, ← hg6]
  intro HT0
  clear hg6 hg8 hb1 d1 e0 e1 e2 e3 e4
  go_loopg [30] l.length (fun gk iv wr => ∃ k : Nat, k + gk = l.length ∧ iv = .int .i64 (k : Int) ∧ Hid (TdM w g6 g8 (id : Int) lv (stF x0.st (flatT (l.take k))) (enF x0.en (flatT (l.take k))) (l.length : Int) wr))
  case atStart => exact ⟨0, by omega, rfl, HT0⟩
  case round =>
    obtain ⟨k, hk, rfl, HT⟩ := hrel
    clear HT0
    by_cases hlt : k < l.length
    · obtain ⟨gk1, hgk1⟩ : ∃ x, gk = x + 1 := ⟨gk - 1, by omega⟩
      obtain ⟨t, hkt⟩ : ∃ t, l[k]? = some t := ⟨_, List.getElem?_eq_getElem hlt⟩
      obtain ⟨z, oz, dz, hA, hz, c0, c1, hd, i0, i1⟩ := H.out.cells hkt
      injection hA with hA
      injection hA with ea eb
      subst ea eb
      have d0 := (HT.out.bel.cell (p := ⟨g, o + k * 2, none⟩) hz).trans c0
      have d1 := (HT.out.bel.cell (p := ⟨g, o + k * 2 + 1, none⟩) hz).trans c1
      obtain ⟨Az, cz, rfl, _, _⟩ := hd.form
      have HD := Lib.hid hd
      have HS := Lib.hid (flatT_take_succ hkt)
      have HT1 := Lib.hid (HT.out.alloc (.cells #[.int .u64 t.id, .slice Az t.sp.length cz] 43))
      have hkb := HT.out.m.lt
      clear hkt c0 c1 hd
      go_wp2_with fail
      revert HT1
      generalize wr.alloc (.cells #[.int .u64 t.id, .slice Az t.sp.length cz] 43) = w4
      intro HT1
      clear d0 d1 HT
      go_loopg [37] t.sp.length (fun gk jv wr => ∃ j : Nat, j + gk = t.sp.length ∧ jv = .int .i64 (j : Int) ∧ Hid (TdM w g6 g8 (id : Int) lv (stF x0.st (flatT (l.take k) ++ t.sp.take j)) (enF x0.en (flatT (l.take k) ++ t.sp.take j)) (l.length : Int) wr))
      case atStart => exact ⟨0, by omega, rfl, by simpa using HT1⟩
      case round =>
        obtain ⟨j, hj, rfl, HQ⟩ := hrel
        clear HT1
        by_cases hjt : j < t.sp.length
        · obtain ⟨gj1, hgj1⟩ : ∃ x, gk = x + 1 := ⟨gk - 1, by omega⟩
          obtain ⟨x, hjx⟩ : ∃ x, t.sp[j]? = some x := ⟨_, List.getElem?_eq_getElem hjt⟩
          obtain ⟨y, oy, dy, rfl, hy, y0, y1, y2, y3, y4, hdy, _⟩ := HD.out.cells hjx
          obtain ⟨Ay, cy, rfl, _, _, _⟩ := hdy
          have z0 := (HQ.out.bel.cell (p := ⟨y, oy + j * 5, none⟩) hy).trans y0
          have z1 := (HQ.out.bel.cell (p := ⟨y, oy + j * 5 + 1, none⟩) hy).trans y1
          have z2 := (HQ.out.bel.cell (p := ⟨y, oy + j * 5 + 2, none⟩) hy).trans y2
          have z3 := (HQ.out.bel.cell (p := ⟨y, oy + j * 5 + 3, none⟩) hy).trans y3
          have z4 := (HQ.out.bel.cell (p := ⟨y, oy + j * 5 + 4, none⟩) hy).trans y4
          have hfz := fun i => HQ.out.m.frozen i
          have m2 := HQ.out.m.cell 2
          have m3 := HQ.out.m.cell 3
          simp at m2 m3
          have hgl := HQ.out.m.lt
          have HST : Hid (stF x0.st (flatT (l.take k) ++ t.sp.take (j + 1)) = min (stF x0.st (flatT (l.take k) ++ t.sp.take j)) x.st) := Lib.hid (by rw [take_snoc_at hjx, ← List.append_assoc, stF_snoc])
          have HEN : Hid (enF x0.en (flatT (l.take k) ++ t.sp.take (j + 1)) = max (enF x0.en (flatT (l.take k) ++ t.sp.take j)) x.en) := Lib.hid (by rw [take_snoc_at hjx, ← List.append_assoc, enF_snoc])
          have HQ2 : Hid (TdM w g6 g8 (id : Int) lv (stF x0.st (flatT (l.take k) ++ t.sp.take (j + 1))) (enF x0.en (flatT (l.take k) ++ t.sp.take (j + 1))) (l.length : Int) (((wr.setCell ⟨g8, 2, none⟩ (.int .i64 (min (stF x0.st (flatT (l.take k) ++ t.sp.take j)) x.st))).setCell ⟨g8, 3, none⟩ (.int .i64 (max (enF x0.en (flatT (l.take k) ++ t.sp.take j)) x.en))).alloc (.cells #[.int .u64 x.tr, .int .u64 x.id, .int .i64 x.st, .int .i64 x.en, .slice Ay x.data.length cy] 87))) := Lib.hid (by
            rw [HST.out, HEN.out]
            exact ((HQ.out.set2 _).set3 _).alloc _)
          clear hjx y0 y1 y2 y3 y4 HQ
          go_wp2_with fail
          go_roundg gj1
          case measure => omega
          case rel => exact ⟨j + 1, by omega, by go_num, HQ2⟩
        · have hjn : j = t.sp.length := by omega
          subst hjn
          have HQ1 : Hid (TdM w g6 g8 (id : Int) lv (stF x0.st (flatT (l.take (k + 1)))) (enF x0.en (flatT (l.take (k + 1)))) (l.length : Int) wr) := Lib.hid (by
            have := HQ.out
            rw [List.take_length, ← HS.out] at this
            exact this)
          clear HQ
          go_wp2_with fail
          go_roundg gk1
          case measure => omega
          case rel => exact ⟨k + 1, by omega, by go_num, HQ1⟩
    · have hkn : k = l.length := by omega
      subst hkn
      have HQ : Hid (TdM w g6 g8 (id : Int) lv (stM (flatT l)) (enM (flatT l)) (l.length : Int) wr) := Lib.hid (by
        have := HT.out
        rw [List.take_length, ← HE.out.1, ← HE.out.2] at this
        exact this)
      clear HT
      have hfz := fun i => HQ.out.res.frozen i
      have m0 := HQ.out.m.cell 0
      have m1 := HQ.out.m.cell 1
      have m2 := HQ.out.m.cell 2
      have m3 := HQ.out.m.cell 3
      have m4 := HQ.out.m.cell 4
      have m5 := HQ.out.m.cell 5
      have r0 := HQ.out.res.cell 0
      have r1 := HQ.out.res.cell 1
      have r2 := HQ.out.res.cell 2
      have r3 := HQ.out.res.cell 3
      have r4 := HQ.out.res.cell 4
      have r5 := HQ.out.res.cell 5
      simp at m0 m1 m2 m3 m4 m5 r0 r1 r2 r3 r4 r5
      go_wp2_with fail
      have hm2 := setall6 g6 HQ.out.res (.int .u64 (id : Int)) (.int .i64 lv) (.int .i64 (stM (flatT l))) (.int .i64 (enM (flatT l))) (.int .i64 0) (.int .i64 (l.length : Int))
      have hg2 := gset6 wr g6 (.int .u64 (id : Int)) (.int .i64 lv) (.int .i64 (stM (flatT l))) (.int .i64 (enM (flatT l))) (.int .i64 0) (.int .i64 (l.length : Int))
      refine bodyPost_ret (v := meV ⟨(id : Int), lv, stM (flatT l), enM (flatT l), 0, (l.length : Nat)⟩) (by have c := hm2.cell; simp [results, go_sem, c]; try rfl) rfl ?_
      exact ⟨rfl, HQ.out.bel.grown hg2 HQ.out.bel.size (by intro z hz; injection hz with hz; have := HQ.out.h6; omega)⟩

set_option maxHeartbeats 1600000 in
theorem indexed_any (v : Value) (ps : List (List Tn)) (w : World) (h : Sls TsV w v ps) (hp : pagesB ps = true) (hl : ps.flatten.length ≤ 100000000) :
    Calls Tryz.prog 99 #[v] w fun e w' => ∃ y, e = .returned y ∧ Own w' w.heap.size 5 y (bkIx ps) ∧ Below w.heap.size w w' := by
  have hids := sls_ids h
  have HIX : Hid (ixB (ps.map firstId) = true ∧ ∀ x ∈ ps.map firstId, x < 18446744073709551616) := Lib.hid ⟨(pagesB_pgs hp).ix fun r hr t ht => (hids r hr t ht).1, Pgs.bound fun r hr t ht => (hids r hr t ht).2⟩
  have hC := iof_any v ps w h hl
  have HP := Lib.hid hp
  clear hids hp hl
  obtain ⟨A, c, rfl, _, _⟩ := h.form
  clear h
  go_enter Tryz.func99, Tryz.ntmps99
  go_wp2_with fail
  refine hC.mono ?_
  rintro e w1 ⟨⟨h, _⟩ | ⟨_, y, rfl, hy⟩, hb1⟩
  · rw [HP.out] at h
    cases h
  have HB1 := Lib.hid hb1
  have HY := Lib.hid hy
  obtain ⟨B, c', hv, _, _⟩ := hy.form
  rw [List.length_map] at hv
  subst hv
  clear hC hy hb1
  go_wp2_with fail
  refine (iput_ok _ _ _ HY.out HIX.out.1 HIX.out.2).mono ?_
  rintro e w2 ⟨z, rfl, hz, hb2⟩
  have HZ := Lib.hid (hz.lower HB1.out.size)
  have HB2 := Lib.hid (HB1.out.trans (hb2.mono HB1.out.size))
  clear hz hb2
  go_wp2_with fail
  go_ret
  exact ⟨_, rfl, HZ.out, HB2.out⟩

set_option maxHeartbeats 3200000 in
theorem filtered_any (v : Value) (l : List Tn) (s : Sz) (w : World) (h : Ts w v l) (hs : szB s = true) :
    Calls Tryz.prog 100 #[v, szV s] w fun e w' => ∃ y, e = .returned y ∧ Own w' w.heap.size 5 y (bkFl l s).bytes ∧ Below w.heap.size w w' := by
  obtain ⟨hR, _, _⟩ := szB_iff.1 hs
  obtain ⟨r1, r2, r3, r4, r5, r6, r7⟩ := rightI_iff.1 hR
  obtain ⟨pg, sh, bi, hs'⟩ := s
  simp only at hR r1 r2 r3 r4 r5 r6 r7
  obtain ⟨sh, rfl⟩ := nat_of (n := sh) (by omega)
  obtain ⟨bi, rfl⟩ := nat_of (n := bi) (by omega)
  obtain ⟨hh, rfl⟩ := nat_of (n := hs') (by omega)
  have HFL : Hid (bkFl l ⟨pg, sh, bi, hh⟩ = (Bl.new sh bi hh).adds (l.map fun t => t.id.toNat)) := Lib.hid rfl
  rw [HFL.out]
  have HNw := Lib.hid (fun u : World => bnew_ok u hR)
  obtain ⟨A, c, rfl, hc1, hc2⟩ := h.form
  have H := Lib.hid h
  have HB0 : Hid (Below w.heap.size w (w.alloc (.cells #[.int .i64 pg, .int .i64 (sh : Int), .int .i64 (bi : Int), .int .i64 (hh : Int)] 25))) := Lib.hid ((Below.refl _ _).alloc (Nat.le_refl _) _)
  clear h hs hR r1 r2 r3 r4 r5 r6 r7
  simp only [szV]
  go_enter Tryz.func100, Tryz.ntmps100
  go_wp2_with fail
  refine (HNw.out _).mono ?_
  rintro e w1 ⟨g, F, rfl, hP, hb1, hF1⟩
  have HW1 : Hid (PBt w1 F g ((Bl.new sh bi hh).adds ((l.take 0).map fun t => t.id.toNat)) ∧ Below w.heap.size w w1 ∧ ∀ z, F z → w.heap.size ≤ z) := Lib.hid ⟨⟨_, _, hP⟩, HB0.out.trans (hb1.mono HB0.out.size), fun z hz => Nat.le_trans HB0.out.size (hF1 z hz)⟩
  clear hP hb1 hF1 HB0
  go_wp2_with fail
  go_loopg [21] l.length (fun gk iv wr => ∃ (k : Nat) (F : Nat → Prop), k + gk = l.length ∧ iv = .int .i64 (k : Int) ∧ Hid (PBt wr F g ((Bl.new sh bi hh).adds ((l.take k).map fun t => t.id.toNat)) ∧ Below w.heap.size w wr ∧ ∀ z, F z → w.heap.size ≤ z))
  case atStart => exact ⟨0, F, by omega, rfl, HW1⟩
  case round =>
    obtain ⟨k, F, hk, rfl, HW⟩ := hrel
    clear HW1
    by_cases hlt : k < l.length
    · obtain ⟨gk1, hgk1⟩ : ∃ x, gk = x + 1 := ⟨gk - 1, by omega⟩
      obtain ⟨t, hkt⟩ : ∃ t, l[k]? = some t := ⟨_, List.getElem?_eq_getElem hlt⟩
      obtain ⟨z, o, d, rfl, hz, c0, c1, hd, i0, i1⟩ := H.out.cells hkt
      obtain ⟨x, hx⟩ := nat_of i0
      rw [hx] at c0
      have hxb : x < 18446744073709551616 := by omega
      have d0 := (HW.out.2.1.cell (p := ⟨z, o + k * 2, none⟩) hz).trans c0
      have d1 := (HW.out.2.1.cell (p := ⟨z, o + k * 2 + 1, none⟩) hz).trans c1
      obtain ⟨Ad, cd, rfl, _, _⟩ := hd.form
      have HT : Hid ((Bl.new sh bi hh).adds ((l.take (k + 1)).map fun t => t.id.toNat) = ((Bl.new sh bi hh).adds ((l.take k).map fun t => t.id.toNat)).add x) := Lib.hid (by
        rw [take_snoc_at hkt, List.map_append, List.map_cons, List.map_nil, hx]
        exact Bl.adds_snoc _ _ _)
      have hb2 : Below wr.heap.size wr (wr.alloc (.cells #[.int .u64 (x : Int), .slice Ad t.sp.length cd] 43)) := (Below.refl _ _).alloc (Nat.le_refl _) _
      have hA := badd_any x ((PBt.thing g _).keep HW.out.1 (Apt.of_below hb2)) hxb
      rw [← HT.out] at hA
      have HB2 := Lib.hid (HW.out.2.1.trans (hb2.mono HW.out.2.1.size))
      have HF2 := Lib.hid HW.out.2.2
      clear hkt c0 c1 hd hx hb2
      go_wp2_with fail
      refine hA.mono ?_
      rintro e w4 ⟨rfl, F4, hP4, hG4⟩
      have HW4 : Hid (PBt w4 F4 g ((Bl.new sh bi hh).adds ((l.take (k + 1)).map fun t => t.id.toNat)) ∧ Below w.heap.size w w4 ∧ ∀ z, F4 z → w.heap.size ≤ z) := Lib.hid ⟨hP4, below_apt HB2.out hG4.apt HF2.out HB2.out.size, fun z hz => (hG4.new z hz).elim (HF2.out z) fun h => Nat.le_trans HB2.out.size h⟩
      clear hA hP4 hG4 d0 d1 HW HB2 HF2
      go_wp2_with fail
      go_roundg gk1
      case measure => omega
      case rel => exact ⟨k + 1, F4, by omega, by go_num, HW4⟩
    · have hkn : k = l.length := by omega
      subst hkn
      have hC := bbytes_any (by have := HW.out.1; rw [List.take_length] at this; exact this)
      have HB := Lib.hid HW.out.2.1
      clear HW
      go_wp2_with fail
      refine hC.mono ?_
      rintro e w5 ⟨y, rfl, ho, hb⟩
      have HO := Lib.hid (ho.lower HB.out.size)
      have HB5 := Lib.hid (HB.out.trans (hb.mono HB.out.size))
      clear hC ho hb
      go_wp2_with fail
      go_ret
      exact ⟨_, rfl, HO.out, HB5.out⟩

theorem bobT : ElemT Tryz.prog 94 98 2 40 := ⟨Tryz.underlying94, by omega, by
  refine ⟨_, _, rfl, rfl, rfl, rfl, ?_⟩
  rfl⟩
def obE (base : Nat) (u : World) (o : Ob) (x : List Value) : Prop := ∃ d, x = [.string (Bstr o.nm), d] ∧ Own u base 5 d o.b
theorem obE_keep {base : Nat} {w : World} {nm b : List UInt8} {d : Value} {bad : Nat → Prop} (h : Own w base 5 d b) (hn : ∀ q, d.ownBlock = some q → ¬ bad q) : Keep bad (fun u => obE base u ⟨nm, b⟩ [.string (Bstr nm), d]) w :=
  fun _ ha => ⟨d, rfl, h.apt ha hn⟩
abbrev ObR (w : World) (base : Nat) (v : Value) (l : List Ob) : Prop := OwnK 2 w base 98 (fun _ => False) (obE base) v l

theorem ObR.lower {w : World} {base base' : Nat} {v : Value} {l : List Ob} (h : ObR w base v l) (hb : base' ≤ base) : ObR w base' v l := by
  obtain ⟨xs, h1, h2⟩ := h
  refine ⟨xs, h1.lower hb, h2.mono fun a x hk u ha => ?_⟩
  obtain ⟨d, hx, hd⟩ := hk u ha
  exact ⟨d, hx, hd.lower hb⟩
structure BxM (w : World) (g4 g7 : Nat) (C4 C7 : Array Value) (u : World) : Prop where
  b4 : Blk u g4 62 C4
  b7 : Blk u g7 25 C7
  bel : Below w.heap.size w u
section
variable {w u u' : World} {g4 g7 : Nat} {C4 C7 : Array Value}
theorem BxM.later (h : BxM w g4 g7 C4 C7 u) (hb : Below u.heap.size u u') : BxM w g4 g7 C4 C7 u' := ⟨h.b4.below hb h.b4.lt, h.b7.below hb h.b7.lt, h.bel.trans (hb.mono h.bel.size)⟩
theorem BxM.grown {row : Option Nat} {B : Nat} (h : BxM w g4 g7 C4 C7 u) (hg : u.grownBy u' row) (hr : ∀ q, row = some q → B ≤ q) (h4 : g4 < B) (h7 : g7 < B) (hB : w.heap.size ≤ B) : BxM w g4 g7 C4 C7 u' :=
  ⟨h.b4.grown hg fun e => by have := hr g4 e.symm; omega, h.b7.grown hg fun e => by have := hr g7 e.symm; omega, h.bel.grown hg h.bel.size fun q hq => Nat.le_trans hB (hr q hq)⟩
end

section
variable {α : Type} {k : Nat} {w : World} {base : Nat} {e : TypeId} {bad : Nat → Prop} {E : World → α → List Value → Prop} {v : Value} {l : List α}
theorem run_append_Ks {P : Program} {t : TypeId} {bytes : Nat} (HT : ElemT P t e k bytes) (ty : TypeId) (h : OwnK k w base e bad E v l) {bs : List α} {ys : List (List Value)} {V : Value} (hV : Lv k w V ys) (hy : Two (fun b y => Keep (fun q => bad q ∨ v.ownBlock = some q) (fun u => E u b y) w) bs ys)
    (h1 : ∀ y ∈ ys, ∀ u ∈ y, u.oneCell' = true) (hl : l.length + bs.length ≤ 1000000000) (hbytes : bytes ≤ 100) (hbase : base ≤ w.heap.size) :
    ∃ v' w', (Builtin.append_ #[t, t] ty #[v, V]).run P w = .ok v' w' ∧ OwnK k w' base e bad E v' (l ++ bs) ∧ w.grownBy w' v.ownBlock ∧ (v'.ownBlock = v.ownBlock ∨ v'.ownBlock = some w.heap.size) := by
  obtain ⟨xs, o1, o2⟩ := h
  have e1 := o2.len
  have e2 := hy.len
  have hm : (xs.length + ys.length) * bytes ≤ 1000000000 * 100 := Nat.mul_le_mul (by omega) hbytes
  obtain ⟨v', w', hrun, ho, hg, hv⟩ := run_append_elems w HT ty base v xs o1 V ys hV h1 (by simp only [maxLen]; omega) (by omega) hbase
  refine ⟨v', w', hrun, ⟨xs ++ ys, ho, (o2.append hy).mono fun _ _ hk => hk.go (Apt.of_grown hg fun q hq => .inr hq) fun q hq => ?_⟩, hg, hv⟩
  rcases hq with hq | hq
  · exact .inl (.inl hq)
  · rcases hv with h | h
    · exact .inl (.inr (by rw [← h]; exact hq))
    · rw [h] at hq
      injection hq with hq
      exact .inr (by omega)
theorem step_append_Ks {P : Program} {t : TypeId} {bytes : Nat} (HT : ElemT P t e k bytes) {ops : Array Oper} {o : Oper} {a : Act} {K : Act → World → Prop} {Q : Exit → Act → World → Prop} {D : Prop} (hgd : o.guard = none) (sx x : Operand)
    (ho : o.op = .call { callee := .builtin .append, args := #[sx, x], argTypes := #[t, t] })
    (hs : a.eval sx = v) (h : OwnK k w base e bad E v l) {bs : List α} {ys : List (List Value)} {V : Value} (hx : a.eval x = V) (hV : Lv k w V ys) (hy : Two (fun b y => Keep (fun q => bad q ∨ v.ownBlock = some q) (fun u => E u b y) w) bs ys)
    (h1 : ∀ y ∈ ys, ∀ u ∈ y, u.oneCell' = true) (hl : l.length + bs.length ≤ 1000000000) (hbytes : bytes ≤ 100) (hbase : base ≤ w.heap.size)
    (hK : ∀ v' w', OwnK k w' base e bad E v' (l ++ bs) → w.grownBy w' v.ownBlock → (v'.ownBlock = v.ownBlock ∨ v'.ownBlock = some w.heap.size) → K (a.put o.dst v') w') :
    if Region.wanted o (yielded ops a.tmps) = true then Oper.wp P o a w K Q else D := by
  have hw : Region.wanted o (yielded ops a.tmps) = true := by simp [Region.wanted, hgd]
  rw [if_pos hw]
  obtain ⟨v', w', hrun, h2, h3, h4⟩ := run_append_Ks HT o.type h hV hy h1 hl hbytes hbase
  unfold Oper.wp execOp
  simp only [ho, resolve, invoke, builtin, Sem.run_bind, Sem.run_pure, Result.andThen_ok, List.map_toArray, List.map_cons, List.map_nil, hs, hx, hrun]
  exact hK v' w' h2 h3 h4
end
theorem Two.three {α β : Type} {R : α → β → Prop} {a b c : α} {x y z : β} (h1 : R a x) (h2 : R b y) (h3 : R c z) : Two R [a, b, c] [x, y, z] := ((Two.nil.snoc h1).snoc h2).snoc h3
theorem Lv.lit3 {w : World} (x1 x2 y1 y2 z1 z2 : Value) (e : TypeId) : Lv 2 (w.alloc (.cells #[x1, x2, y1, y2, z1, z2] e)) (.slice (some ⟨w.heap.size, 0, none⟩) 3 3) [[x1, x2], [y1, y2], [z1, z2]] := by
  have hb := Blk.new w e #[x1, x2, y1, y2, z1, z2]
  refine ⟨_, 3, rfl, Nat.le_refl _, by omega, fun x hx => by simp at hx; rcases hx with rfl | rfl | rfl <;> rfl, Rd.of_cells fun j u hu => ?_⟩
  have hj : j < 6 := by simpa using (List.getElem?_eq_some_iff.1 hu).1
  rw [Addr.add_lit, Nat.zero_add, hb.cell j]
  simpa using hu

def ObS (w : World) (base : Nat) (v : Value) (l : List Ob) : Prop := ∃ xs, OwnL 2 w base 98 v xs ∧ Two (obE base w) l xs
section
variable {w u : World} {base base' : Nat} {v : Value} {l : List Ob} {bad : Nat → Prop}
theorem ObR.obs (h : ObR w base v l) : ObS w base v l := by
  obtain ⟨xs, h1, h2⟩ := h
  exact ⟨xs, h1, h2.mono fun _ _ hk => hk.here⟩
theorem ObS.apt (h : ObS w base v l) (ha : Apt bad w u) (hb : ∀ q, base ≤ q → q < w.heap.size → ¬ bad q) : ObS u base v l := by
  obtain ⟨xs, h1, h2⟩ := h
  refine ⟨xs, h1.apt ha fun q hq => hb q (h1.ge q hq) (h1.lt q hq), h2.mono fun a x he => ?_⟩
  obtain ⟨d, hx, hd⟩ := he
  exact ⟨d, hx, hd.apt ha fun q hq => hb q (World.ownsRow.lt hd q hq).1 (World.ownsRow.lt hd q hq).2⟩
theorem ObS.below (h : ObS w base v l) (hb : Below w.heap.size w u) : ObS u base v l := h.apt (bad := fun _ => False) (Apt.of_below hb) fun _ _ _ h => h
theorem ObS.lower (h : ObS w base v l) (hb : base' ≤ base) : ObS w base' v l := by
  obtain ⟨xs, h1, h2⟩ := h
  refine ⟨xs, h1.lower hb, h2.mono fun a x he => ?_⟩
  obtain ⟨d, hx, hd⟩ := he
  exact ⟨d, hx, hd.lower hb⟩
theorem ObS.form (h : ObS w base v l) : ∃ A c, v = .slice A l.length c ∧ l.length ≤ c ∧ c ≤ 9223372036854775807 := by
  obtain ⟨xs, h1, h2⟩ := h
  obtain ⟨A, c, hv, h3, h4⟩ := h1.lv.form
  rw [← h2.len] at hv h3
  exact ⟨A, c, hv, h3, h4⟩
theorem ObS.cells {A : Option Addr} {n c : Nat} (h : ObS w base (.slice A n c) l) {i : Nat} {o : Ob} (hi : l[i]? = some o) :
    ∃ g p d, A = some ⟨g, p, none⟩ ∧ base ≤ g ∧ g < w.heap.size ∧ w.cell? ⟨g, p + i * 2, none⟩ = some (.string (Bstr o.nm)) ∧ w.cell? ⟨g, p + i * 2 + 1, none⟩ = some d ∧ Own w base 5 d o.b := by
  obtain ⟨xs, h1, h2⟩ := h
  obtain ⟨x, hx, d, rfl, hd⟩ := h2.right hi
  obtain ⟨g, p, hA, hg, hc⟩ := h1.lv.cells (by omega) hx
  subst hA
  exact ⟨g, p, d, rfl, h1.ge g rfl, hg, hc 0 _ rfl, hc 1 _ rfl, hd⟩
end

set_option maxHeartbeats 6400000 in
theorem objects_any (id : Nat) (m : Me) (vl vp : Value) (l : List Tn) (ps : List (List Tn)) (s : Sz) (w : World) (hid : m.id = (id : Int)) (hib : id < 18446744073709551616) (hmb : meB m = true) (hmo : m.ok) (hl : Ts w vl l) (hp : Sls TsV w vp ps) (hs : szB s = true)
    (hpb : pagesB ps = true) (hpg : ∀ p ∈ ps, pgB p = true) (hn : ps.length ≤ 200) (hfl : ps.flatten.length ≤ 100000000) (hL : Ld w) :
    Calls Tryz.prog 64 #[meV m, vl, vp, szV s] w fun e w' => ∃ x, e = .returned x ∧ ObR w' w.heap.size x (obPages id ps ++ [⟨nmOf id [105] 0, bkIx ps⟩, ⟨nmOf id [102] 0, (bkFl l s).bytes⟩, ⟨nmOf id [109] 0, sealedOf (meRaw m)⟩]) ∧ Below w.heap.size w w' := by
  obtain ⟨mi, mlv, mst, men, mpg, mtr⟩ := m
  simp only at hid
  subst hid
  obtain ⟨pg, sh, bi, hs'⟩ := s
  obtain ⟨A, c, rfl, hc1, hc2⟩ := hl.form
  obtain ⟨A', c', rfl, hc3, hc4⟩ := hp.form
  have HP := Lib.hid hp
  have HL := Lib.hid hl
  have HLD := Lib.hid hL
  have HM := Lib.hid (And.intro hmb hmo)
  have HS := Lib.hid hs
  have HPB := Lib.hid hpb
  have HPG := Lib.hid hpg
  have HFL := Lib.hid hfl
  have HI0 : Hid (BxM w w.heap.size (w.heap.size + 1) #[.int .u64 (id : Int), .int .i64 mlv, .int .i64 mst, .int .i64 men, .int .i64 mpg, .int .i64 mtr] #[.int .i64 pg, .int .i64 sh, .int .i64 bi, .int .i64 hs'] ((w.alloc (.cells #[.int .u64 (id : Int), .int .i64 mlv, .int .i64 mst, .int .i64 men, .int .i64 mpg, .int .i64 mtr] 62)).alloc (.cells #[.int .i64 pg, .int .i64 sh, .int .i64 bi, .int .i64 hs'] 25))) := Lib.hid
    ⟨(Blk.new w _ _).alloc _, by simpa using Blk.new (w.alloc (.cells #[.int .u64 (id : Int), .int .i64 mlv, .int .i64 mst, .int .i64 men, .int .i64 mpg, .int .i64 mtr] 62)) 25 #[.int .i64 pg, .int .i64 sh, .int .i64 bi, .int .i64 hs'], ((Below.refl _ _).alloc (Nat.le_refl _) _).alloc (by simp) _⟩
  have hsz : ((w.alloc (.cells #[.int .u64 (id : Int), .int .i64 mlv, .int .i64 mst, .int .i64 men, .int .i64 mpg, .int .i64 mtr] 62)).alloc (.cells #[.int .i64 pg, .int .i64 sh, .int .i64 bi, .int .i64 hs'] 25)).heap.size = w.heap.size + 2 := by simp
  clear hp hl hL hmb hmo hs hpb hpg hfl
  simp only [meV, szV]
  go_enter Tryz.func64, Tryz.ntmps64
  go_wp2_with fail
  revert HI0 hsz
  generalize (w.alloc (.cells #[.int .u64 (id : Int), .int .i64 mlv, .int .i64 mst, .int .i64 men, .int .i64 mpg, .int .i64 mtr] 62)).alloc (.cells #[.int .i64 pg, .int .i64 sh, .int .i64 bi, .int .i64 hs'] 25) = w1
  obtain ⟨g4, hg4⟩ : ∃ n, n = w.heap.size := ⟨_, rfl⟩
  obtain ⟨g7, hg7⟩ : ∃ n, n = w.heap.size + 1 := ⟨_, rfl⟩
  rw [← hg7, ← hg4]
  intro HI0 hsz
  have HG : Hid (g4 < w1.heap.size ∧ g7 < w1.heap.size ∧ w.heap.size ≤ w1.heap.size) := Lib.hid ⟨by omega, by omega, by omega⟩
  clear hg4 hg7 hsz
  generalize hBB : w1.heap.size = B at *
  go_loopg [9, 18] ps.length (fun gk av iv wr => ∃ k : Nat, k + gk = ps.length ∧ iv = .int .i64 (k : Int) ∧ Hid (BxM w g4 g7 #[.int .u64 (id : Int), .int .i64 mlv, .int .i64 mst, .int .i64 men, .int .i64 mpg, .int .i64 mtr] #[.int .i64 pg, .int .i64 sh, .int .i64 bi, .int .i64 hs'] wr ∧ ObR wr B av (obPages id (ps.take k)) ∧ B ≤ wr.heap.size))
  case atStart => exact ⟨0, by omega, rfl, Lib.hid ⟨HI0.out, OwnK.nil _ _ _ _ _ _, by omega⟩⟩
  case round =>
    obtain ⟨k, hk, rfl, HW⟩ := hrel
    clear HI0
    by_cases hlt : k < ps.length
    · obtain ⟨gk1, hgk1⟩ : ∃ x, gk = x + 1 := ⟨gk - 1, by omega⟩
      obtain ⟨p, hkp⟩ : ∃ p, ps[k]? = some p := ⟨_, List.getElem?_eq_getElem hlt⟩
      obtain ⟨z, oz, dz, rfl, hz, c0, hd⟩ := HP.out.cell hkp
      have d0 := (HW.out.1.bel.cell (p := ⟨z, oz + k, none⟩) hz).trans c0
      have HD := Lib.hid ((show Ts w dz p from hd).below HW.out.1.bel)
      obtain ⟨Az, cz, rfl, _, _⟩ := Ts.form hd
      have HPP := Lib.hid (HPG.out p (List.mem_of_getElem? hkp))
      have HN : Hid (obPages id (ps.take (k + 1)) = obPages id (ps.take k) ++ [⟨nmOf id [112] (k : Int), pgOf p⟩]) := Lib.hid (by
        rw [take_snoc_at hkp, obPages_snoc, List.length_take, Nat.min_eq_left (Nat.le_of_lt hlt)]
        rfl)
      have a0 : (0 : Int) ≤ (k : Int) := by omega
      have a1 : (k : Int) < (ps.length : Int) := by omega
      obtain ⟨Av, cv, hav, hv1, hv2⟩ := HW.out.2.1.form
      subst hav
      have HLO : Hid ((obPages id (ps.take k)).length ≤ 1000000000) := Lib.hid (by rw [obPages_length, List.length_take]; omega)
      have hOl : (obPages id (ps.take k)).length = k := by rw [obPages_length, List.length_take, Nat.min_eq_left (Nat.le_of_lt hlt)]
      rw [hOl] at HW hv1 ⊢
      clear hkp c0 hd hOl
      go_wp2_with fail
      refine (pput_any _ p _ HD.out).mono ?_
      rintro e w3 ⟨x, er, rfl, hPut, hb3⟩
      obtain ⟨rfl, hx⟩ := hPut.yes HPP.out
      have HX3 := Lib.hid hx
      have HW3 : Hid (BxM w g4 g7 #[.int .u64 (id : Int), .int .i64 mlv, .int .i64 mst, .int .i64 men, .int .i64 mpg, .int .i64 mtr] #[.int .i64 pg, .int .i64 sh, .int .i64 bi, .int .i64 hs'] w3 ∧ ObR w3 B (.slice Av k cv) (obPages id (ps.take k)) ∧ B ≤ w3.heap.size) := Lib.hid ⟨HW.out.1.later hb3, HW.out.2.1.below hb3, Nat.le_trans HW.out.2.2 hb3.size⟩
      have HLT : Hid (∀ q, (Value.slice Av k cv).ownBlock = some q → q < wr.heap.size) := Lib.hid fun q hq => (HW.out.2.1.lt q hq).2
      have HBr : Hid (B ≤ wr.heap.size) := Lib.hid HW.out.2.2
      obtain ⟨Ax, cx, hxv, _, _⟩ := hx.form
      subst hxv
      generalize hnl : (pgOf p).length = nl at *
      have b0 := HW3.out.1.b4.cell 0
      simp at b0
      clear hPut hx hb3 HW d0
      go_wp2_with fail
      refine (mname_any id [112] (k : Int) _ hib (HLD.out.below HW3.out.1.bel)).mono ?_
      rintro e w4 ⟨rfl, hb4⟩
      have hb5 : Below w3.heap.size w3 (w4.alloc (.cells #[.string (Bstr (nmOf id [112] (k : Int))), .slice Ax nl cx] 98)) := hb4.alloc hb4.size _
      have HW5 : Hid (BxM w g4 g7 #[.int .u64 (id : Int), .int .i64 mlv, .int .i64 mst, .int .i64 men, .int .i64 mpg, .int .i64 mtr] #[.int .i64 pg, .int .i64 sh, .int .i64 bi, .int .i64 hs'] (w4.alloc (.cells #[.string (Bstr (nmOf id [112] (k : Int))), .slice Ax nl cx] 98)) ∧ ObR (w4.alloc (.cells #[.string (Bstr (nmOf id [112] (k : Int))), .slice Ax nl cx] 98)) B (.slice Av k cv) (obPages id (ps.take k)) ∧ B ≤ (w4.alloc (.cells #[.string (Bstr (nmOf id [112] (k : Int))), .slice Ax nl cx] 98)).heap.size) := Lib.hid ⟨HW3.out.1.later hb5, HW3.out.2.1.below hb5, Nat.le_trans HW3.out.2.2 hb5.size⟩
      have HLV := Lib.hid (Lv.lit1 w4 [.string (Bstr (nmOf id [112] (k : Int))), .slice Ax nl cx] 98)
      have HK5 : Hid (Keep (fun q => False ∨ (Value.slice Av k cv).ownBlock = some q) (fun u => obE B u ⟨nmOf id [112] (k : Int), pgOf p⟩ [.string (Bstr (nmOf id [112] (k : Int))), .slice Ax nl cx]) (w4.alloc (.cells #[.string (Bstr (nmOf id [112] (k : Int))), .slice Ax nl cx] 98))) := Lib.hid (obE_keep ((HX3.out.below hb5).lower HBr.out) fun q hq hb => by
        have h1 := (World.ownsRow.lt HX3.out q hq).1
        rcases hb with h | h
        · exact h
        · have := HLT.out q h
          omega)
      clear hb4 hb5 HX3 HW3 b0
      go_wp2_with (at_builtin; refine wpList_append_K bobT rfl _ _ rfl rfl HW5.out.2.1 rfl HLV.out HK5.out (by simp [Value.oneCell']) HLO.out (by decide) HW5.out.2.2 ?_)
      intro v6 w6 hO6 hg6 _
      have HW6 : Hid (BxM w g4 g7 #[.int .u64 (id : Int), .int .i64 mlv, .int .i64 mst, .int .i64 men, .int .i64 mpg, .int .i64 mtr] #[.int .i64 pg, .int .i64 sh, .int .i64 bi, .int .i64 hs'] w6 ∧ ObR w6 B v6 (obPages id (ps.take (k + 1))) ∧ B ≤ w6.heap.size) := Lib.hid ⟨HW5.out.1.grown hg6 (fun q hq => (HW5.out.2.1.lt q hq).1) HG.out.1 HG.out.2.1 HG.out.2.2, by rw [HN.out]; exact hO6, Nat.le_trans HW5.out.2.2 hg6.size⟩
      clear hO6 hg6 HW5 HLV HK5
      go_wp2_with fail
      go_roundg gk1
      case measure => omega
      case rel => exact ⟨k + 1, by omega, by go_num, HW6⟩
    · have hkn : k = ps.length := by omega
      subst hkn
      rw [List.take_length] at HW
      obtain ⟨Av, cv, hav, hv1, hv2⟩ := HW.out.2.1.form
      subst hav
      have HLO : Hid ((obPages id ps).length ≤ 1000) := Lib.hid (by rw [obPages_length]; omega)
      rw [obPages_length] at HW hv1 ⊢
      have b0 := HW.out.1.b4.cell 0
      have b1 := HW.out.1.b4.cell 1
      have b2 := HW.out.1.b4.cell 2
      have b3 := HW.out.1.b4.cell 3
      have b4 := HW.out.1.b4.cell 4
      have b5 := HW.out.1.b4.cell 5
      simp at b0 b1 b2 b3 b4 b5
      have hMP := fun u => mput_ok _ HM.out.2 u HM.out.1
      simp only [meV] at hMP
      go_wp2_with fail
      refine (hMP _).mono ?_
      rintro e w3 ⟨mb, rfl, hmb, hb3⟩
      obtain ⟨Am, cm, hmv, _, _⟩ := hmb.form
      subst hmv
      have HB3 := Lib.hid (HW.out.1.later hb3)
      have HO3 := Lib.hid (HW.out.2.1.below hb3)
      have HLT : Hid (∀ q, (Value.slice Av ps.length cv).ownBlock = some q → q < wr.heap.size) := Lib.hid fun q hq => (HW.out.2.1.lt q hq).2
      have HBr : Hid (B ≤ wr.heap.size) := Lib.hid HW.out.2.2
      have HRS : Hid (wr.heap.size ≤ w3.heap.size) := Lib.hid hb3.size
      have HMB := Lib.hid hmb
      generalize (sealedOf (meRaw ⟨(id : Int), mlv, mst, men, mpg, mtr⟩)).length = nm at HMB ⊢
      clear hMP hmb hb3 HW b0 b1 b2 b3 b4 b5
      have hcl : ∀ u, Apt (fun z => (Value.slice Av ps.length cv).ownBlock = some z) w3 u → u.cell? ⟨g4, 0, none⟩ = some (.int .u64 (id : Int)) ∧ u.cell? ⟨g7, 0, none⟩ = some (.int .i64 pg) ∧ u.cell? ⟨g7, 1, none⟩ = some (.int .i64 sh) ∧ u.cell? ⟨g7, 2, none⟩ = some (.int .i64 bi) ∧ u.cell? ⟨g7, 3, none⟩ = some (.int .i64 hs') := fun u hu => by
        have e4 : u.heap[g4]? = w3.heap[g4]? := hu.block g4 HB3.out.b4.lt fun e => by have := (HO3.out.lt g4 e).1; have := HG.out.1; omega
        have e7 : u.heap[g7]? = w3.heap[g7]? := hu.block g7 HB3.out.b7.lt fun e => by have := (HO3.out.lt g7 e).1; have := HG.out.2.1; omega
        have h4 := (show Blk u g4 _ _ from e4.trans HB3.out.b4)
        have h7 := (show Blk u g7 _ _ from e7.trans HB3.out.b7)
        exact ⟨by simpa using h4.cell 0, by simpa using h7.cell 0, by simpa using h7.cell 1, by simpa using h7.cell 2, by simpa using h7.cell 3⟩
      have HLD3 : Hid (∀ u, Below w3.heap.size w3 u → Ld u ∧ Sls TsV u (.slice A' ps.length c') ps ∧ Ts u (.slice A l.length c) l) := Lib.hid fun u hu => by
        have h1 := HB3.out.bel.trans (hu.mono HB3.out.bel.size)
        exact ⟨HLD.out.below h1, sls_ts_below HP.out h1, HL.out.below h1⟩
      go_wp2_with fail
      refine wp_region_mix [(0, false), (1, false), (2, false), (4, false), (7, false), (8, false), (10, false), (11, false), (14, false), (15, false), (17, false), (3, true), (5, true), (6, false), (9, true), (12, true), (13, false), (16, true), (18, false), (19, true), (20, true), (21, true)] (fun u => Apt (fun z => (Value.slice Av ps.length cv).ownBlock = some z) w3 u) (by kernel_rfl) (by kernel_rfl) (by kernel_rfl) rfl (Apt.of_below (Below.refl _ _).drew) ?_
      repeat
        (refine mix_read (o := ⟨_, _, _, _, _, _⟩) (v := ?_) rfl (by rfl) (fun w' hS => ?_) ?_
         rotate_left
         obtain ⟨j0, j1, j2, j3, j4⟩ := hcl w' hS
         go_simp
         with_reducible rfl
         try simp only [Act.put, List.setIfInBounds_toArray, List.set_cons_zero, List.set_cons_succ])
      refine mix_step (o := ⟨_, _, _, _, _, _⟩) rfl (fun K hK => ?_)
      go_simp
      refine (mname_any id [105] 0 _ hib (HLD3.out _ (Below.refl _ _).drew).1).mono ?_
      rintro e w4 ⟨rfl, hb4⟩
      have h4 : Below w3.heap.size w3 w4 := (Below.refl _ w3).drew.trans hb4
      refine hK.out _ _ (Apt.of_below h4) ?_
      clear hK K hb4
      try simp only [Act.put, List.setIfInBounds_toArray, List.set_cons_zero, List.set_cons_succ]
      refine mix_step (o := ⟨_, _, _, _, _, _⟩) rfl (fun K hK => ?_)
      go_simp
      refine (indexed_any _ ps _ (HLD3.out _ h4).2.1 HPB.out HFL.out).mono ?_
      rintro e w5 ⟨yi, rfl, hyi, hb5⟩
      have h5 : Below w3.heap.size w3 w5 := h4.trans (hb5.mono h4.size)
      refine hK.out _ _ (Apt.of_below h5) ?_
      obtain ⟨Ai, ci, hiv, _, _⟩ := hyi.form
      subst hiv
      have HI5 := Lib.hid (hyi.lower h4.size)
      generalize (bkIx ps).length = ni at HI5 ⊢
      clear hyi
      clear hK K hb5
      try simp only [Act.put, List.setIfInBounds_toArray, List.set_cons_zero, List.set_cons_succ]
      refine mix_read (o := ⟨_, _, _, _, _, _⟩) (v := ?_) rfl (by rfl) (fun w' hS => ?_) ?_
      rotate_left
      · go_simp
        with_reducible rfl
      try simp only [Act.put, List.setIfInBounds_toArray, List.set_cons_zero, List.set_cons_succ]
      refine mix_step (o := ⟨_, _, _, _, _, _⟩) rfl (fun K hK => ?_)
      go_simp
      refine (mname_any id [102] 0 _ hib (HLD3.out _ h5).1).mono ?_
      rintro e w6 ⟨rfl, hb6⟩
      have h6 : Below w3.heap.size w3 w6 := h5.trans (hb6.mono h5.size)
      refine hK.out _ _ (Apt.of_below h6) ?_
      clear hK K
      try simp only [Act.put, List.setIfInBounds_toArray, List.set_cons_zero, List.set_cons_succ]
      refine mix_step (o := ⟨_, _, _, _, _, _⟩) rfl (fun K hK => ?_)
      go_simp
      refine (filtered_any _ l ⟨pg, sh, bi, hs'⟩ _ (HLD3.out _ h6).2.2 HS.out).mono ?_
      rintro e w7 ⟨yf, rfl, hyf, hb7⟩
      have h7 : Below w3.heap.size w3 w7 := h6.trans (hb7.mono h6.size)
      refine hK.out _ _ (Apt.of_below h7) ?_
      obtain ⟨Af, cf, hfv, _, _⟩ := hyf.form
      subst hfv
      have HF7 := Lib.hid (hyf.lower h6.size)
      have HI7 := Lib.hid (HI5.out.below (hb6.trans (hb7.mono hb6.size)))
      generalize ((bkFl l ⟨pg, sh, bi, hs'⟩).bytes).length = nf at HF7 ⊢
      clear hyf
      clear hK K hb6 hb7
      try simp only [Act.put, List.setIfInBounds_toArray, List.set_cons_zero, List.set_cons_succ]
      refine mix_read (o := ⟨_, _, _, _, _, _⟩) (v := ?_) rfl (by rfl) (fun w' hS => ?_) ?_
      rotate_left
      · go_simp
        with_reducible rfl
      try simp only [Act.put, List.setIfInBounds_toArray, List.set_cons_zero, List.set_cons_succ]
      refine mix_step (o := ⟨_, _, _, _, _, _⟩) rfl (fun K hK => ?_)
      go_simp
      refine (mname_any id [109] 0 _ hib (HLD3.out _ h7).1).mono ?_
      rintro e w8 ⟨rfl, hb8⟩
      have h8 : Below w3.heap.size w3 w8 := h7.trans (hb8.mono h7.size)
      refine hK.out _ _ (Apt.of_below h8) ?_
      have HI8 := Lib.hid (HI7.out.below hb8)
      have HF8 := Lib.hid (HF7.out.below hb8)
      have HM8 := Lib.hid (HMB.out.below h8)
      have HO8 := Lib.hid (HO3.out.below h8)
      clear hK K hb8
      try simp only [Act.put, List.setIfInBounds_toArray, List.set_cons_zero, List.set_cons_succ]
      refine mix_read (o := ⟨_, _, _, _, _, _⟩) (v := ?_) rfl (by rfl) (fun w' hS => ?_) ?_
      rotate_left
      · go_simp
        with_reducible rfl
      try simp only [Act.put, List.setIfInBounds_toArray, List.set_cons_zero, List.set_cons_succ]
      have hb9 : Below w8.heap.size w8 (w8.alloc (.cells #[.string (Bstr (nmOf id [105] 0)), .slice Ai ni ci, .string (Bstr (nmOf id [102] 0)), .slice Af nf cf, .string (Bstr (nmOf id [109] 0)), .slice Am nm cm] 98)) := (Below.refl _ _).alloc (Nat.le_refl _) _
      have h9 : Below w3.heap.size w3 (w8.alloc (.cells #[.string (Bstr (nmOf id [105] 0)), .slice Ai ni ci, .string (Bstr (nmOf id [102] 0)), .slice Af nf cf, .string (Bstr (nmOf id [109] 0)), .slice Am nm cm] 98)) := h8.alloc h8.size _
      have HO9 := Lib.hid (HO8.out.below hb9)
      have HLV := Lib.hid (Lv.lit3 (w := w8) (.string (Bstr (nmOf id [105] 0))) (.slice Ai ni ci) (.string (Bstr (nmOf id [102] 0))) (.slice Af nf cf) (.string (Bstr (nmOf id [109] 0))) (.slice Am nm cm) 98)
      have HRW : Hid (∀ (v : Value) (y : List UInt8) (n : List UInt8), Own (w8.alloc (.cells #[.string (Bstr (nmOf id [105] 0)), .slice Ai ni ci, .string (Bstr (nmOf id [102] 0)), .slice Af nf cf, .string (Bstr (nmOf id [109] 0)), .slice Am nm cm] 98)) wr.heap.size 5 v y → Keep (fun q => False ∨ (Value.slice Av ps.length cv).ownBlock = some q) (fun u => obE B u ⟨n, y⟩ [.string (Bstr n), v]) (w8.alloc (.cells #[.string (Bstr (nmOf id [105] 0)), .slice Ai ni ci, .string (Bstr (nmOf id [102] 0)), .slice Af nf cf, .string (Bstr (nmOf id [109] 0)), .slice Am nm cm] 98))) := Lib.hid fun v y n hv => obE_keep (hv.lower HBr.out) fun q hq hb => by
        have h1 := (World.ownsRow.lt hv q hq).1
        rcases hb with h | h
        · exact h
        · have := HLT.out q h
          omega
      have HKS : Hid (Two (fun b y => Keep (fun q => False ∨ (Value.slice Av ps.length cv).ownBlock = some q) (fun u => obE B u b y) (w8.alloc (.cells #[.string (Bstr (nmOf id [105] 0)), .slice Ai ni ci, .string (Bstr (nmOf id [102] 0)), .slice Af nf cf, .string (Bstr (nmOf id [109] 0)), .slice Am nm cm] 98))) [⟨nmOf id [105] 0, bkIx ps⟩, ⟨nmOf id [102] 0, (bkFl l ⟨pg, sh, bi, hs'⟩).bytes⟩, ⟨nmOf id [109] 0, sealedOf (meRaw ⟨(id : Int), mlv, mst, men, mpg, mtr⟩)⟩] [[.string (Bstr (nmOf id [105] 0)), .slice Ai ni ci], [.string (Bstr (nmOf id [102] 0)), .slice Af nf cf], [.string (Bstr (nmOf id [109] 0)), .slice Am nm cm]]) := Lib.hid
        (Two.three (HRW.out _ _ (nmOf id [105] 0) ((HI8.out.below hb9).lower HRS.out)) (HRW.out _ _ (nmOf id [102] 0) ((HF8.out.below hb9).lower HRS.out)) (HRW.out _ _ (nmOf id [109] 0) (HM8.out.below hb9)))
      have HB9 := Lib.hid (HB3.out.later h9)
      clear hb9
      refine mix_step (o := ⟨_, _, _, _, _, _⟩) rfl (fun K hK => ?_)
      go_simp
      refine hK.out _ _ (Apt.of_below h9) ?_
      clear hK K
      try simp only [Act.put, List.setIfInBounds_toArray, List.set_cons_zero, List.set_cons_succ]
      refine mix_step (o := ⟨_, _, _, _, _, _⟩) rfl (fun K hK => ?_)
      refine step_append_Ks bobT rfl _ _ rfl rfl HO9.out rfl HLV.out HKS.out (by intro y hy u hu; simp at hy; rcases hy with rfl | rfl | rfl <;> (simp at hu; rcases hu with rfl | rfl <;> rfl)) (by have := HLO.out; simp; omega) (by decide) (Nat.le_trans (Nat.le_trans HBr.out HRS.out) h9.size) ?_
      intro v10 w10 hO10 hg10 _
      have hA10 : Apt (fun z => (Value.slice Av ps.length cv).ownBlock = some z) w3 w10 := (Apt.of_below h9).trans (Apt.of_grown hg10 fun q hq => hq)
      have HB10 := Lib.hid (HB9.out.grown hg10 (fun q hq => (HO9.out.lt q hq).1) HG.out.1 HG.out.2.1 HG.out.2.2)
      have HO10 := Lib.hid (ObR.lower hO10 HG.out.2.2)
      refine hK.out _ _ hA10 ?_
      clear hK K hO10 hg10
      try simp only [Act.put, List.setIfInBounds_toArray, List.set_cons_zero, List.set_cons_succ]
      refine mix_step (o := ⟨_, _, _, _, _, _⟩) rfl (fun K hK => ?_)
      go_simp
      refine hK.out _ _ hA10 ?_
      clear hK K
      refine mix_done ?_
      try go_wp2_with fail
      go_ret
      exact ⟨_, rfl, HO10.out, HB10.out.bel⟩

def MakeP (w w' : World) (id : Nat) (lv : Int) (l : List Tn) (s : Sz) (e : Ending) : Prop :=
  (¬ BkOk id lv l s ∧ e = .returned (.tuple #[.slice none 0 0, meV Me.zero, code 1])) ∨ (BkOk id lv l s ∧ ∃ x, e = .returned (.tuple #[x, meV (bkMe id lv l s), .nilIface]) ∧ ObS w' w.heap.size x (bkObs id lv l s))

abbrev meZ : Array Value := #[.int .u64 0, .int .i64 0, .int .i64 0, .int .i64 0, .int .i64 0, .int .i64 0]
structure BxR (w : World) (g7 g9 : Nat) (C7 C9 : Array Value) (u : World) : Prop where
  b7 : Blk u g7 25 C7
  b9 : Blk u g9 62 C9
  bel : Below w.heap.size w u
  h9 : w.heap.size ≤ g9
section
variable {w u u' : World} {g7 g9 : Nat} {C7 C9 : Array Value}
theorem BxR.later (h : BxR w g7 g9 C7 C9 u) (hb : Below u.heap.size u u') : BxR w g7 g9 C7 C9 u' := ⟨h.b7.below hb h.b7.lt, h.b9.below hb h.b9.lt, h.bel.trans (hb.mono h.bel.size), h.h9⟩
theorem BxR.start (w : World) (C7 C9 : Array Value) : BxR w w.heap.size (w.heap.size + 1) C7 C9 ((w.alloc (.cells C7 25)).alloc (.cells C9 62)) :=
  ⟨(Blk.new w _ _).alloc _, by simpa using Blk.new (w.alloc (.cells C7 25)) 62 C9, ((Below.refl _ _).alloc (Nat.le_refl _) _).alloc (by simp) _, by omega⟩
end

set_option maxHeartbeats 12800000 in
theorem bmake_any (id : Nat) (lv : Int) (v : Value) (l : List Tn) (s : Sz) (w : World) (h : Ts w v l) (hid : id < 18446744073709551616) (hll : l.length ≤ 200) (hL : Ld w) :
    Calls Tryz.prog 39 #[.int .u64 (id : Int), .int .i64 lv, v, szV s] w fun e w' => MakeP w w' id lv l s e ∧ Below w.heap.size w w' := by
  obtain ⟨pg, sh, bi, hs'⟩ := s
  obtain ⟨A, c, rfl, hc1, hc2⟩ := h.form
  have H := Lib.hid h
  have HLD := Lib.hid hL
  have HI0 := Lib.hid (BxR.start w #[.int .i64 pg, .int .i64 sh, .int .i64 bi, .int .i64 hs'] meZ)
  have hMay := fun u => bmay_any ⟨pg, sh, bi, hs'⟩ u
  simp only [szV] at hMay ⊢
  clear h hL
  cases hS : szB ⟨pg, sh, bi, hs'⟩ with
  | false =>
    have HN : Hid (¬ BkOk id lv l ⟨pg, sh, bi, hs'⟩) := Lib.hid fun h => by rw [h.sz] at hS; cases hS
    rw [hS] at hMay
    clear hS
    go_enter Tryz.func39, Tryz.ntmps39
    go_wp2_with fail
    revert HI0
    generalize ((w.alloc (.cells #[.int .i64 pg, .int .i64 sh, .int .i64 bi, .int .i64 hs'] 25)).alloc (.cells meZ 62)) = w1
    intro HI0
    refine (hMay _).mono ?_
    rintro e w2 ⟨rfl, hb2⟩
    have HI2 := Lib.hid (HI0.out.later hb2)
    clear hb2 HI0 hMay
    have hfz := fun i => HI2.out.b9.frozen i
    have r0 := HI2.out.b9.cell 0
    have r1 := HI2.out.b9.cell 1
    have r2 := HI2.out.b9.cell 2
    have r3 := HI2.out.b9.cell 3
    have r4 := HI2.out.b9.cell 4
    have r5 := HI2.out.b9.cell 5
    simp at r0 r1 r2 r3 r4 r5
    go_wp2_with fail
    have hm2 := setall6 _ HI2.out.b9 (.int .u64 0) (.int .i64 0) (.int .i64 0) (.int .i64 0) (.int .i64 0) (.int .i64 0)
    have hg2 := gset6 w2 (w.heap.size + 1) (.int .u64 0) (.int .i64 0) (.int .i64 0) (.int .i64 0) (.int .i64 0) (.int .i64 0)
    refine bodyPost_ret (v := .tuple #[.slice none 0 0, meV Me.zero, code 1]) (by have c := hm2.cell; simp [results, go_sem, c]; try rfl) rfl ?_
    exact ⟨.inl ⟨HN.out, rfl⟩, HI2.out.bel.grown hg2 HI2.out.bel.size (by intro z hz; injection hz with hz; have := HI2.out.h9; omega)⟩
  | true =>
    rw [hS] at hMay
    have HS := Lib.hid hS
    clear hS
    by_cases hl0 : l = []
    · subst hl0
      have HN : Hid (¬ BkOk id lv [] ⟨pg, sh, bi, hs'⟩) := Lib.hid fun h => h.ne rfl
      simp only [List.length_nil] at H hc1 ⊢
      go_enter Tryz.func39, Tryz.ntmps39
      go_wp2_with fail
      revert HI0
      generalize ((w.alloc (.cells #[.int .i64 pg, .int .i64 sh, .int .i64 bi, .int .i64 hs'] 25)).alloc (.cells meZ 62)) = w1
      intro HI0
      refine (hMay _).mono ?_
      rintro e w2 ⟨rfl, hb2⟩
      have HI2 := Lib.hid (HI0.out.later hb2)
      clear hb2 HI0 hMay
      have hfz := fun i => HI2.out.b9.frozen i
      have r0 := HI2.out.b9.cell 0
      have r1 := HI2.out.b9.cell 1
      have r2 := HI2.out.b9.cell 2
      have r3 := HI2.out.b9.cell 3
      have r4 := HI2.out.b9.cell 4
      have r5 := HI2.out.b9.cell 5
      simp at r0 r1 r2 r3 r4 r5
      go_wp2_with fail
      have hm2 := setall6 _ HI2.out.b9 (.int .u64 0) (.int .i64 0) (.int .i64 0) (.int .i64 0) (.int .i64 0) (.int .i64 0)
      have hg2 := gset6 w2 (w.heap.size + 1) (.int .u64 0) (.int .i64 0) (.int .i64 0) (.int .i64 0) (.int .i64 0) (.int .i64 0)
      refine bodyPost_ret (v := .tuple #[.slice none 0 0, meV Me.zero, code 1]) (by have c := hm2.cell; simp [results, go_sem, c]; try rfl) rfl ?_
      exact ⟨.inl ⟨HN.out, rfl⟩, HI2.out.bel.grown hg2 HI2.out.bel.size (by intro z hz; injection hz with hz; have := HI2.out.h9; omega)⟩
    have hlp : 0 < l.length := List.length_pos_iff.2 hl0
    have kl : ((l.length : Int) == 0) = false := by rw [beq_eq_false_iff_ne]; omega
    by_cases hi0 : id = 0
    · subst hi0
      have HN : Hid (¬ BkOk 0 lv l ⟨pg, sh, bi, hs'⟩) := Lib.hid fun h => h.id0 rfl
      go_enter Tryz.func39, Tryz.ntmps39
      go_wp2_with fail
      revert HI0
      generalize ((w.alloc (.cells #[.int .i64 pg, .int .i64 sh, .int .i64 bi, .int .i64 hs'] 25)).alloc (.cells meZ 62)) = w1
      intro HI0
      refine (hMay _).mono ?_
      rintro e w2 ⟨rfl, hb2⟩
      have HI2 := Lib.hid (HI0.out.later hb2)
      clear hb2 HI0 hMay
      have hfz := fun i => HI2.out.b9.frozen i
      have r0 := HI2.out.b9.cell 0
      have r1 := HI2.out.b9.cell 1
      have r2 := HI2.out.b9.cell 2
      have r3 := HI2.out.b9.cell 3
      have r4 := HI2.out.b9.cell 4
      have r5 := HI2.out.b9.cell 5
      simp at r0 r1 r2 r3 r4 r5
      go_wp2_with fail
      have hm2 := setall6 _ HI2.out.b9 (.int .u64 0) (.int .i64 0) (.int .i64 0) (.int .i64 0) (.int .i64 0) (.int .i64 0)
      have hg2 := gset6 w2 (w.heap.size + 1) (.int .u64 0) (.int .i64 0) (.int .i64 0) (.int .i64 0) (.int .i64 0) (.int .i64 0)
      refine bodyPost_ret (v := .tuple #[.slice none 0 0, meV Me.zero, code 1]) (by have c := hm2.cell; simp [results, go_sem, c]; try rfl) rfl ?_
      exact ⟨.inl ⟨HN.out, rfl⟩, HI2.out.bel.grown hg2 HI2.out.bel.size (by intro z hz; injection hz with hz; have := HI2.out.h9; omega)⟩
    have ki : ((id : Int) == 0) = false := by rw [beq_eq_false_iff_ne]; omega
    have HL0 := Lib.hid hl0
    have HI00 := Lib.hid hi0
    clear hl0 hi0
    by_cases hlv : 0 ≤ lv ∧ lv ≤ 10
    · have kv : (decide (0 ≤ lv) && decide (lv ≤ 10)) = true := by simp [hlv]
      have HLV := Lib.hid hlv
      clear hlv
      go_enter Tryz.func39, Tryz.ntmps39
      go_wp2_with fail
      revert HI0
      generalize ((w.alloc (.cells #[.int .i64 pg, .int .i64 sh, .int .i64 bi, .int .i64 hs'] 25)).alloc (.cells meZ 62)) = w1
      intro HI0
      refine (hMay _).mono ?_
      rintro e w2 ⟨rfl, hb2⟩
      have HI2 := Lib.hid (HI0.out.later hb2)
      clear hb2 HI0 hMay
      go_wp2_with fail
      refine (bkAmong_any lv 0 10 _).mono ?_
      rw [kv]
      rintro e w3 ⟨rfl, rfl⟩
      have b0 := HI2.out.b7.cell 0
      simp at b0
      go_wp2_with fail
      refine (pcut_any _ l pg _ (H.out.below HI2.out.bel) (by omega)).mono ?_
      rintro e w3 ⟨x, er, rfl, hcut, hb3⟩
      have HI3 := Lib.hid (HI2.out.later hb3)
      clear b0 hb3 HI2
      obtain ⟨hr, hp1, hp2⟩ := szB_iff.1 HS.out
      by_cases hIs : IsT l
      · obtain ⟨rfl, hps⟩ := hcut.yes hIs hp1 hp2
        have HOK : Hid (BkOk id lv l ⟨pg, sh, bi, hs'⟩) := Lib.hid ⟨HS.out, HL0.out, hIs, HI00.out, HLV.out.1, HLV.out.2⟩
        have HPS : Hid (Sls TsV w3 x (pagesOf l ⟨pg, sh, bi, hs'⟩)) := Lib.hid hps
        clear hps hcut hr hp1 hp2
        obtain ⟨ps, hpse⟩ : ∃ ps, ps = pagesOf l ⟨pg, sh, bi, hs'⟩ := ⟨_, rfl⟩
        rw [← hpse] at HPS
        have HPE := Lib.hid hpse
        have hpl : ps.length ≤ 200 := by
          have := pages_len l ⟨pg, sh, bi, hs'⟩
          rw [hpse]
          omega
        clear hpse
        obtain ⟨Ap, cp, rfl, _, _⟩ := HPS.out.form
        go_wp2_with fail
        refine (told_any id lv _ l _ (H.out.below HI3.out.bel) hIs HL0.out).mono ?_
        rintro e w4 ⟨rfl, hb4⟩
        have HI4 := Lib.hid (HI3.out.later hb4)
        have HPS4 := Lib.hid (sls_ts_below HPS.out hb4)
        clear hb4 HI3 HPS hIs
        simp only [meV]
        obtain ⟨st, hst⟩ : ∃ x, x = stM (flatT l) := ⟨_, rfl⟩
        obtain ⟨en, hen⟩ : ∃ x, x = enM (flatT l) := ⟨_, rfl⟩
        rw [← hst, ← hen]
        have HME : Hid (bkMe id lv l ⟨pg, sh, bi, hs'⟩ = ⟨(id : Int), lv, st, en, (ps.length : Nat), (l.length : Nat)⟩) := Lib.hid (by rw [hst, hen, HPE.out]; rfl)
        clear hst hen
        go_wp2_with fail
        have HB5 : Hid (Blk (w4.alloc (.cells #[.int .u64 (id : Int), .int .i64 lv, .int .i64 st, .int .i64 en, .int .i64 (ps.length : Int), .int .i64 (l.length : Int)] 62)) w4.heap.size 62 #[.int .u64 (id : Int), .int .i64 lv, .int .i64 st, .int .i64 en, .int .i64 (ps.length : Int), .int .i64 (l.length : Int)]) := Lib.hid (Blk.new _ _ _)
        have hb5 : Below w4.heap.size w4 (w4.alloc (.cells #[.int .u64 (id : Int), .int .i64 lv, .int .i64 st, .int .i64 en, .int .i64 (ps.length : Int), .int .i64 (l.length : Int)] 62)) := (Below.refl _ _).alloc (Nat.le_refl _) _
        have HI5 := Lib.hid (HI4.out.later hb5)
        have HPS5 := Lib.hid (sls_ts_below HPS4.out hb5)
        have HG : Hid (w.heap.size + 1 < w4.heap.size ∧ w.heap.size < w4.heap.size) := Lib.hid ⟨HI4.out.b9.lt, HI4.out.b7.lt⟩
        clear hb5 HI4 HPS4
        revert HB5 HI5 HPS5
        generalize w4.alloc (.cells #[.int .u64 (id : Int), .int .i64 lv, .int .i64 st, .int .i64 en, .int .i64 (ps.length : Int), .int .i64 (l.length : Int)] 62) = w5
        intro HB5 HI5 HPS5
        have hcl : ∀ u, Apt (fun z => z = w.heap.size + 1) w5 u → (u.cell? ⟨w4.heap.size, 0, none⟩ = some (.int .u64 (id : Int)) ∧ u.cell? ⟨w4.heap.size, 1, none⟩ = some (.int .i64 lv) ∧ u.cell? ⟨w4.heap.size, 2, none⟩ = some (.int .i64 st) ∧ u.cell? ⟨w4.heap.size, 3, none⟩ = some (.int .i64 en) ∧ u.cell? ⟨w4.heap.size, 4, none⟩ = some (.int .i64 (ps.length : Int)) ∧ u.cell? ⟨w4.heap.size, 5, none⟩ = some (.int .i64 (l.length : Int))) ∧
            u.cell? ⟨w.heap.size, 0, none⟩ = some (.int .i64 pg) ∧ u.cell? ⟨w.heap.size, 1, none⟩ = some (.int .i64 sh) ∧ u.cell? ⟨w.heap.size, 2, none⟩ = some (.int .i64 bi) ∧ u.cell? ⟨w.heap.size, 3, none⟩ = some (.int .i64 hs') := fun u hu => by
          have h4 := (show Blk u w4.heap.size _ _ from (hu.block _ HB5.out.lt fun e => by have := HG.out.1; omega).trans HB5.out)
          have h7 := (show Blk u w.heap.size _ _ from (hu.block _ HI5.out.b7.lt fun e => by omega).trans HI5.out.b7)
          exact ⟨⟨by simpa using h4.cell 0, by simpa using h4.cell 1, by simpa using h4.cell 2, by simpa using h4.cell 3, by simpa using h4.cell 4, by simpa using h4.cell 5⟩, by simpa using h7.cell 0, by simpa using h7.cell 1, by simpa using h7.cell 2, by simpa using h7.cell 3⟩
        refine wp_region_mix [(0, false), (1, false), (2, false), (3, false), (5, false), (4, true), (6, true), (7, true), (8, true)] (fun u => Apt (fun z => z = w.heap.size + 1) w5 u) (by kernel_rfl) (by kernel_rfl) (by kernel_rfl) rfl (Apt.of_below (Below.refl _ _).drew) ?_
        repeat
          (refine mix_read (o := ⟨_, _, _, _, _, _⟩) (v := ?_) rfl (by rfl) (fun w' hS => ?_) ?_
           rotate_left
           obtain ⟨⟨j0, j1, j2, j3, j4, j5⟩, i0, i1, i2, i3⟩ := hcl w' hS
           go_simp
           with_reducible rfl
           try simp only [Act.put, List.setIfInBounds_toArray, List.set_cons_zero, List.set_cons_succ])
        have hme := bkMe_ok HOK.out hid (by rw [← HPE.out]; exact hpl) (by omega)
        rw [HME.out] at hme
        have hpb : pagesB ps = true := by rw [HPE.out]; exact pages_ok HOK.out.is _ (by rw [← HPE.out]; exact hpl)
        have hpg : ∀ p ∈ ps, pgB p = true := by rw [HPE.out]; exact pages_pgB HOK.out.is _
        have hfl : ps.flatten.length ≤ 100000000 := by rw [HPE.out, pages_flat]; omega
        have hC := objects_any id ⟨(id : Int), lv, st, en, (ps.length : Nat), (l.length : Nat)⟩ _ _ l ps ⟨pg, sh, bi, hs'⟩ w5.drew rfl hid hme.1 hme.2 (H.out.below HI5.out.bel.drew) (sls_ts_below HPS5.out (Below.refl _ _).drew) HS.out hpb hpg hpl hfl (HLD.out.below HI5.out.bel.drew)
        clear hpb hpg hfl hme
        have he : bkObs id lv l ⟨pg, sh, bi, hs'⟩ = obPages id ps ++ [⟨nmOf id [105] 0, bkIx ps⟩, ⟨nmOf id [102] 0, (bkFl l ⟨pg, sh, bi, hs'⟩).bytes⟩, ⟨nmOf id [109] 0, sealedOf (meRaw ⟨(id : Int), lv, st, en, (ps.length : Nat), (l.length : Nat)⟩)⟩] := by rw [bkObs, HME.out, HPE.out]
        rw [← he] at hC
        clear he
        obtain ⟨L, hLe⟩ : ∃ L, L = bkObs id lv l ⟨pg, sh, bi, hs'⟩ := ⟨_, rfl⟩
        rw [← hLe] at hC
        have HLE := Lib.hid hLe
        clear hLe
        simp only [meV, szV] at hC
        refine mix_step (o := ⟨_, _, _, _, _, _⟩) rfl (fun K hK => ?_)
        go_simp
        refine hC.mono ?_
        rintro e w6 ⟨x, rfl, hx, hb6⟩
        have h6 : Below w5.heap.size w5 w6 := (Below.refl _ w5).drew.trans hb6
        refine hK.out _ _ (Apt.of_below h6) ?_
        have HI6 := Lib.hid (HI5.out.later h6)
        have HX := Lib.hid (ObR.obs hx)
        have HG5 : Hid (w.heap.size + 1 < w5.drew.heap.size) := Lib.hid HI5.out.b9.lt
        obtain ⟨Ax, cx, rfl, _, _⟩ := hx.form
        clear hC hx hb6 hK K
        try simp only [Act.put, List.setIfInBounds_toArray, List.set_cons_zero, List.set_cons_succ]
        refine mix_step (o := ⟨_, _, _, _, _, _⟩) rfl (fun K hK => ?_)
        go_simp
        refine hK.out _ _ (Apt.of_below h6) ?_
        clear hK K
        try simp only [Act.put, List.setIfInBounds_toArray, List.set_cons_zero, List.set_cons_succ]
        have hfz := fun i => HI6.out.b9.frozen i
        have r0 := HI6.out.b9.cell 0
        have r1 := HI6.out.b9.cell 1
        have r2 := HI6.out.b9.cell 2
        have r3 := HI6.out.b9.cell 3
        have r4 := HI6.out.b9.cell 4
        have r5 := HI6.out.b9.cell 5
        simp at r0 r1 r2 r3 r4 r5
        have hm2 := setall6 _ HI6.out.b9 (.int .u64 (id : Int)) (.int .i64 lv) (.int .i64 st) (.int .i64 en) (.int .i64 (ps.length : Int)) (.int .i64 (l.length : Int))
        have hg2 := gset6 w6 (w.heap.size + 1) (.int .u64 (id : Int)) (.int .i64 lv) (.int .i64 st) (.int .i64 en) (.int .i64 (ps.length : Int)) (.int .i64 (l.length : Int))
        have h60 : Apt (fun z => z = w.heap.size + 1) w5 w6 := Apt.of_below h6
        have h7 := h60.trans (Apt.of_grown (bad := fun z => z = w.heap.size + 1) hg2 fun q hq => (Option.some.inj hq).symm)
        refine mix_step (o := ⟨_, _, _, _, _, _⟩) rfl (fun K hK => ?_)
        go_simp
        refine hK.out _ _ h7 ?_
        clear hK K
        try simp only [Act.put, List.setIfInBounds_toArray, List.set_cons_zero, List.set_cons_succ]
        refine mix_step (o := ⟨_, _, _, _, _, _⟩) rfl (fun K hK => ?_)
        go_simp
        refine hK.out _ _ h7 ?_
        clear hK K
        refine mix_done ?_
        go_wp2_with fail
        have hX2 := (HX.out.apt (bad := fun z => z = w.heap.size + 1) (Apt.of_grown hg2 fun q hq => (Option.some.inj hq).symm) fun q h1 _ e => by have := HG5.out; omega).lower (base' := w.heap.size) (by have := HG5.out; omega)
        rw [HLE.out] at hX2
        refine bodyPost_ret (v := .tuple #[.slice Ax L.length cx, .agg #[.int .u64 (id : Int), .int .i64 lv, .int .i64 st, .int .i64 en, .int .i64 (ps.length : Int), .int .i64 (l.length : Int)], .nilIface]) (by have c := hm2.cell; simp [results, go_sem, c]; try rfl) rfl ?_
        refine ⟨.inr ⟨HOK.out, _, by rw [HME.out]; rfl, ?_⟩, HI6.out.bel.grown hg2 HI6.out.bel.size (by intro z hz; have := Option.some.inj hz; omega)⟩
        rw [HLE.out]
        exact hX2
      · obtain ⟨rfl, rfl⟩ := hcut.no fun h => hIs h.1
        have HN : Hid (¬ BkOk id lv l ⟨pg, sh, bi, hs'⟩) := Lib.hid fun h => hIs h.is
        clear hcut hIs hr hp1 hp2
        have hfz := fun i => HI3.out.b9.frozen i
        have r0 := HI3.out.b9.cell 0
        have r1 := HI3.out.b9.cell 1
        have r2 := HI3.out.b9.cell 2
        have r3 := HI3.out.b9.cell 3
        have r4 := HI3.out.b9.cell 4
        have r5 := HI3.out.b9.cell 5
        simp at r0 r1 r2 r3 r4 r5
        go_wp2_with fail
        have hm2 := setall6 _ HI3.out.b9 (.int .u64 0) (.int .i64 0) (.int .i64 0) (.int .i64 0) (.int .i64 0) (.int .i64 0)
        have hg2 := gset6 w3 (w.heap.size + 1) (.int .u64 0) (.int .i64 0) (.int .i64 0) (.int .i64 0) (.int .i64 0) (.int .i64 0)
        refine bodyPost_ret (v := .tuple #[.slice none 0 0, meV Me.zero, code 1]) (by have c := hm2.cell; simp [results, go_sem, c]; try rfl) rfl ?_
        exact ⟨.inl ⟨HN.out, rfl⟩, HI3.out.bel.grown hg2 HI3.out.bel.size (by intro z hz; injection hz with hz; have := HI3.out.h9; omega)⟩
    · have kv : (decide (0 ≤ lv) && decide (lv ≤ 10)) = false := by
        rw [Bool.and_eq_false_iff, decide_eq_false_iff_not, decide_eq_false_iff_not]
        omega
      have HN : Hid (¬ BkOk id lv l ⟨pg, sh, bi, hs'⟩) := Lib.hid fun h => hlv ⟨h.lv0, h.lv1⟩
      clear hlv
      go_enter Tryz.func39, Tryz.ntmps39
      go_wp2_with fail
      revert HI0
      generalize ((w.alloc (.cells #[.int .i64 pg, .int .i64 sh, .int .i64 bi, .int .i64 hs'] 25)).alloc (.cells meZ 62)) = w1
      intro HI0
      refine (hMay _).mono ?_
      rintro e w2 ⟨rfl, hb2⟩
      have HI2 := Lib.hid (HI0.out.later hb2)
      clear hb2 HI0 hMay
      go_wp2_with fail
      refine (bkAmong_any lv 0 10 _).mono ?_
      rw [kv]
      rintro e w3 ⟨rfl, rfl⟩
      have hfz := fun i => HI2.out.b9.frozen i
      have r0 := HI2.out.b9.cell 0
      have r1 := HI2.out.b9.cell 1
      have r2 := HI2.out.b9.cell 2
      have r3 := HI2.out.b9.cell 3
      have r4 := HI2.out.b9.cell 4
      have r5 := HI2.out.b9.cell 5
      simp at r0 r1 r2 r3 r4 r5
      go_wp2_with fail
      have hm2 := setall6 _ HI2.out.b9 (.int .u64 0) (.int .i64 0) (.int .i64 0) (.int .i64 0) (.int .i64 0) (.int .i64 0)
      have hg2 := gset6 w2 (w.heap.size + 1) (.int .u64 0) (.int .i64 0) (.int .i64 0) (.int .i64 0) (.int .i64 0) (.int .i64 0)
      refine bodyPost_ret (v := .tuple #[.slice none 0 0, meV Me.zero, code 1]) (by have c := hm2.cell; simp [results, go_sem, c]; try rfl) rfl ?_
      exact ⟨.inl ⟨HN.out, rfl⟩, HI2.out.bel.grown hg2 HI2.out.bel.size (by intro z hz; injection hz with hz; have := HI2.out.h9; omega)⟩

end Go.Proofs.YtfccfnbmmgfgcaaGreatDoor

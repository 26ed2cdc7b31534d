/-
  THE PROGRAM's HEAP of tankard/kway.row[tankard/api.Trace]: CONTRACTS of its calls. Conditions: what each says.
-/
import Derived.Test.YtpanpebllapbcaaKwG
import Derived.Test.YtpanpebllapbcaaHpF
import Derived.Test.YtpanpebllapbcaaMix
import Derived.Deep.DeepCutAuto
namespace Go.Proofs.Ytpanpebllapbcaa
open Go.RowKit
set_option maxRecDepth 100000

set_option maxHeartbeats 1600000 in
theorem hpAhead_KrT {w : World} {F : Nat → Prop} {g : Nat} {fv v pv : Value} {R : KrT → KrT → Bool} {D : KrT → Prop} (x y : KrT) (n m : Nat) (hB : Blk w g 94 #[fv, v, pv]) (hL : Keep F (LessAt krV fv R D) w) (hx : D x) (hy : D y) :
    Calls Try.prog 65 #[.pointer (some ⟨g, 0, none⟩), .agg #[.slice x.A x.n x.c, .int .i64 (x.pl : Int), .int .u64 (n : Int)], .agg #[.slice y.A y.n y.c, .int .i64 (y.pl : Int), .int .u64 (m : Int)]] w fun e w' => e = .returned (.bool (turnB R (x, n) (y, m))) ∧ Below w.heap.size w w' := by
  have hg := hB.lt
  have k0 := hB.cell 0
  simp at k0
  obtain ⟨fn, cap, rfl, heg, _⟩ := hL.here
  have HC : Hid (∀ u, Below w.heap.size w u → ∀ a b, D a → D b → Calls Try.prog fn (#[.agg #[.slice a.A a.n a.c, .int .i64 (a.pl : Int)], .agg #[.slice b.A b.n b.c, .int .i64 (b.pl : Int)]] ++ cap) u fun e u' => e = .returned (.bool (R a b)) ∧ Below u.heap.size u u') := Lib.hid fun u hu a b ha hb => by
    obtain ⟨fn', cap', e, _, h⟩ := hL.below hu |>.here
    injection e with e1 _ e3
    injection e1 with e1
    subst e1 e3
    exact h a b ha hb
  have hb2 : Below w.heap.size w ((w.alloc (.cells #[.slice x.A x.n x.c, .int .i64 (x.pl : Int), .int .u64 (n : Int)] 96)).alloc (.cells #[.slice y.A y.n y.c, .int .i64 (y.pl : Int), .int .u64 (m : Int)] 96)) := ((Below.refl _ w).alloc (Nat.le_refl _) _).alloc (by simp) _
  have hx1 := (Blk.new w 96 #[.slice x.A x.n x.c, .int .i64 (x.pl : Int), .int .u64 (n : Int)]).alloc (.cells #[.slice y.A y.n y.c, .int .i64 (y.pl : Int), .int .u64 (m : Int)] 96)
  have hy1 : Blk ((w.alloc (.cells #[.slice x.A x.n x.c, .int .i64 (x.pl : Int), .int .u64 (n : Int)] 96)).alloc (.cells #[.slice y.A y.n y.c, .int .i64 (y.pl : Int), .int .u64 (m : Int)] 96)) (w.heap.size + 1) 96 #[.slice y.A y.n y.c, .int .i64 (y.pl : Int), .int .u64 (m : Int)] := by
    have := Blk.new (w.alloc (.cells #[.slice x.A x.n x.c, .int .i64 (x.pl : Int), .int .u64 (n : Int)] 96)) 96 #[.slice y.A y.n y.c, .int .i64 (y.pl : Int), .int .u64 (m : Int)]
    rw [show (w.alloc (.cells #[.slice x.A x.n x.c, .int .i64 (x.pl : Int), .int .u64 (n : Int)] 96)).heap.size = w.heap.size + 1 by simp] at this
    exact this
  have hz2 : ((w.alloc (.cells #[.slice x.A x.n x.c, .int .i64 (x.pl : Int), .int .u64 (n : Int)] 96)).alloc (.cells #[.slice y.A y.n y.c, .int .i64 (y.pl : Int), .int .u64 (m : Int)] 96)).heap.size = w.heap.size + 2 := by simp
  have hS : Hid (∀ u, Below ((w.alloc (.cells #[.slice x.A x.n x.c, .int .i64 (x.pl : Int), .int .u64 (n : Int)] 96)).alloc (.cells #[.slice y.A y.n y.c, .int .i64 (y.pl : Int), .int .u64 (m : Int)] 96)).heap.size ((w.alloc (.cells #[.slice x.A x.n x.c, .int .i64 (x.pl : Int), .int .u64 (n : Int)] 96)).alloc (.cells #[.slice y.A y.n y.c, .int .i64 (y.pl : Int), .int .u64 (m : Int)] 96)) u →
      u.cell? ⟨g, 0, none⟩ = some (.func (.func fn) #[] cap) ∧ (True ∧ u.cell? ⟨w.heap.size, 0, none⟩ = some (.slice x.A x.n x.c) ∧ u.cell? ⟨w.heap.size, 1, none⟩ = some (.int .i64 (x.pl : Int))) ∧ (True ∧ u.cell? ⟨w.heap.size + 1, 0, none⟩ = some (.slice y.A y.n y.c) ∧ u.cell? ⟨w.heap.size + 1, 1, none⟩ = some (.int .i64 (y.pl : Int)))) := Lib.hid fun u hu => by
    refine ⟨(hu.cell (p := ⟨g, 0, none⟩) (by rw [hz2]; show g < _; omega)).trans ((hb2.cell (p := ⟨g, 0, none⟩) hg).trans k0), ⟨trivial, ?_, ?_⟩, ⟨trivial, ?_, ?_⟩⟩
    all_goals first
      | exact (hu.cell (by rw [hz2]; show w.heap.size < _; omega)).trans (hx1.cell _)
      | exact (hu.cell (by rw [hz2]; show w.heap.size + 1 < _; omega)).trans (hy1.cell _)
  have HB2 := Lib.hid hb2
  clear hL hB hb2 hx1 hy1 hz2 k0 hg
  by_cases hlt : n < m
  · have hE : Hid (turnB R (x, n) (y, m) = !R y x) := Lib.hid (by simp [turnB, hlt])
    go_enter Try.func65, Try.ntmps65
    go_wp2_with fail
    generalize ((w.alloc (.cells #[.slice x.A x.n x.c, .int .i64 (x.pl : Int), .int .u64 (n : Int)] 96)).alloc (.cells #[.slice y.A y.n y.c, .int .i64 (y.pl : Int), .int .u64 (m : Int)] 96)) = w2 at *
    refine wp_region_mix [(0, false), (1, false), (2, false), (3, false), (4, false), (5, false), (6, false), (7, false), (8, true), (9, false), (10, false)] (fun u => Below w2.heap.size w2 u) (by kernel_rfl) (by kernel_rfl) (by decide +kernel) rfl (Below.refl _ _).drew ?_
    repeat
      (refine mix_read (o := ⟨_, _, _, _, _, _⟩) (v := ?_) rfl (by rfl) (fun w' hU => ?_) ?_
       rotate_left
       obtain ⟨hU1, hU2, hU3⟩ := hS.out _ hU
       go_simp
       with_reducible rfl
       try simp only [Act.put, List.setIfInBounds_toArray, List.set_cons_zero, List.set_cons_succ])
    refine mix_step (o := ⟨_, _, _, _, _, _⟩) rfl (fun K hK => ?_)
    go_simp
    refine (HC.out _ HB2.out.drew y x hy hx).mono ?_
    rintro e w3 ⟨rfl, hb3⟩
    refine hK.out _ _ ((Below.refl _ _).drew.trans hb3) ?_
    clear hK K
    try simp only [Act.put, List.setIfInBounds_toArray, List.set_cons_zero, List.set_cons_succ]
    repeat
      (refine mix_read (o := ⟨_, _, _, _, _, _⟩) (v := ?_) rfl (by rfl) (fun w' hU => ?_) ?_
       rotate_left
       go_simp
       with_reducible rfl
       try simp only [Act.put, List.setIfInBounds_toArray, List.set_cons_zero, List.set_cons_succ])
    refine mix_done ?_
    go_wp2_with fail
    go_ret
    exact ⟨by rw [hE.out]; rfl, HB2.out.trans (((Below.refl _ _).drew.trans hb3).mono HB2.out.size)⟩
  · have hE : Hid (turnB R (x, n) (y, m) = R x y) := Lib.hid (by simp [turnB, hlt])
    go_enter Try.func65, Try.ntmps65
    go_wp2_with fail
    generalize ((w.alloc (.cells #[.slice x.A x.n x.c, .int .i64 (x.pl : Int), .int .u64 (n : Int)] 96)).alloc (.cells #[.slice y.A y.n y.c, .int .i64 (y.pl : Int), .int .u64 (m : Int)] 96)) = w2 at *
    refine wp_region_mix [(0, false), (1, false), (2, false), (3, false), (4, false), (5, false), (6, false), (7, false), (8, true), (9, false)] (fun u => Below w2.heap.size w2 u) (by kernel_rfl) (by kernel_rfl) (by decide +kernel) rfl (Below.refl _ _).drew ?_
    repeat
      (refine mix_read (o := ⟨_, _, _, _, _, _⟩) (v := ?_) rfl (by rfl) (fun w' hU => ?_) ?_
       rotate_left
       obtain ⟨hU1, hU2, hU3⟩ := hS.out _ hU
       go_simp
       with_reducible rfl
       try simp only [Act.put, List.setIfInBounds_toArray, List.set_cons_zero, List.set_cons_succ])
    refine mix_step (o := ⟨_, _, _, _, _, _⟩) rfl (fun K hK => ?_)
    go_simp
    refine (HC.out _ HB2.out.drew x y hx hy).mono ?_
    rintro e w3 ⟨rfl, hb3⟩
    refine hK.out _ _ ((Below.refl _ _).drew.trans hb3) ?_
    clear hK K
    try simp only [Act.put, List.setIfInBounds_toArray, List.set_cons_zero, List.set_cons_succ]
    repeat
      (refine mix_read (o := ⟨_, _, _, _, _, _⟩) (v := ?_) rfl (by rfl) (fun w' hU => ?_) ?_
       rotate_left
       go_simp
       with_reducible rfl
       try simp only [Act.put, List.setIfInBounds_toArray, List.set_cons_zero, List.set_cons_succ])
    refine mix_done ?_
    go_wp2_with fail
    go_ret
    exact ⟨by rw [hE.out]; rfl, HB2.out.trans (((Below.refl _ _).drew.trans hb3).mono HB2.out.size)⟩

set_option maxHeartbeats 3200000 in
theorem hpRise_KrT {w : World} {F : Nat → Prop} {g p : Nat} {fv v : Value} {R : KrT → KrT → Bool} {D : KrT → Prop} {a : List (Turn KrT)} (h : HpM 94 96 3 krCT w F g fv p a v) (hR : WeakO R D) (hL : Keep F (LessAt krV fv R D) w) (hD : ∀ z ∈ a, D z.1) (hI : RiseI (turnB R) a (a.length - 1)) (hne : a ≠ []) (hl : a.length ≤ 1000001) :
    Calls Try.prog 50 #[.pointer (some ⟨g, 0, none⟩), v] w fun e w' => e = .returned (.tuple #[]) ∧ ∃ a', HpM 94 96 3 krCT w' F g fv p a' v ∧ Apt F w w' ∧ a'.Perm a ∧ HeapOk (turnB R) a' := by
  have H := Lib.hid h
  have HR := Lib.hid (turnO hR)
  have HL := Lib.hid hL
  have HD := Lib.hid hD
  have HI := Lib.hid hI
  have hpos : 0 < a.length := List.length_pos_iff.2 hne
  rcases h.form with ⟨_, e⟩ | ⟨q, c, rfl, hc1, hc2, hF, hq, hfz⟩
  · exact absurd e hne
  obtain ⟨n, hn⟩ : ∃ n, a.length = n + 1 := ⟨a.length - 1, by omega⟩
  have HN := Lib.hid hn
  have HFq := Lib.hid hF
  rw [hn] at H hI HI hc1 ⊢
  have hnn : n ≤ 1000000 := by omega
  clear h hL hD hI hne hpos hfz hF hn
  go_enter Try.func50, Try.ntmps50
  go_wp2_with fail
  go_loopg [4, 5] n (fun gk iv av wr => ∃ (k : Nat) (b : List (Turn KrT)), k ≤ gk ∧ k ≤ n ∧ iv = .int .i64 (k : Int) ∧ Hid (HpM 94 96 3 krCT wr F g fv p b (.slice (some ⟨q, 0, none⟩) (n + 1) c) ∧ Apt F w wr ∧ b.Perm a ∧ RiseI (turnB R) b k))
  case atStart => exact ⟨n, a, by omega, by omega, by first | rfl | go_num, Lib.hid ⟨H.out, Apt.refl _ _, List.Perm.refl _, HI.out⟩⟩
  case round =>
    obtain ⟨k, b, hkg, hkn, rfl, HM⟩ := hrel
    have HLen : Hid (b.length = n + 1) := Lib.hid (by rw [HM.out.2.2.1.length_eq, HN.out])
    rcases Nat.eq_zero_or_pos k with rfl | hk0
    · have HE : Hid (HeapOk (turnB R) b) := Lib.hid (HM.out.2.2.2.done fun _ _ h => absurd h (by omega))
      go_wp2_with fail
      refine bodyPost_end (results_none rfl _ _ _) rfl ?_
      exact ⟨rfl, b, HM.out.1, HM.out.2.1, HM.out.2.2.1, HE.out⟩
    · obtain ⟨k1, rfl⟩ : ∃ k1, k = k1 + 1 := ⟨k - 1, by omega⟩
      obtain ⟨gk1, hgk1⟩ : ∃ x, gk = x + 1 := ⟨gk - 1, by omega⟩
      obtain ⟨m, hm⟩ : ∃ m, k1 / 2 = m := ⟨_, rfl⟩
      obtain ⟨⟨x, s⟩, hx⟩ : ∃ z, b[k1 + 1]? = some z := ⟨_, List.getElem?_eq_getElem (by rw [HLen.out]; omega)⟩
      obtain ⟨⟨y, t⟩, hy⟩ : ∃ z, b[m]? = some z := ⟨_, List.getElem?_eq_getElem (by rw [HLen.out]; omega)⟩
      have HX := Lib.hid hx
      have HY := Lib.hid hy
      have HS : Hid (∀ u, Below wr.heap.size wr u → (True ∧ u.cell? ⟨q, (k1 + 1) * 3, none⟩ = some (.slice x.A x.n x.c) ∧ u.cell? ⟨q, (k1 + 1) * 3 + 1, none⟩ = some (.int .i64 (x.pl : Int)) ∧ u.cell? ⟨q, (k1 + 1) * 3 + 2, none⟩ = some (.int .u64 (s : Int))) ∧ (True ∧ u.cell? ⟨q, m * 3, none⟩ = some (.slice y.A y.n y.c) ∧ u.cell? ⟨q, m * 3 + 1, none⟩ = some (.int .i64 (y.pl : Int)) ∧ u.cell? ⟨q, m * 3 + 2, none⟩ = some (.int .u64 (t : Int)))) := Lib.hid fun u hu => by
        have h := HM.out.1.later hu
        have c1 := h.cell (by omega) rfl hx
        have c2 := h.cell (by omega) rfl hy
        exact ⟨⟨trivial, by simpa using c1 0 _ rfl, by simpa using c1 1 _ rfl, by simpa using c1 2 _ rfl⟩, ⟨trivial, by simpa using c2 0 _ rfl, by simpa using c2 1 _ rfl, by simpa using c2 2 _ rfl⟩⟩
      have hDx : D x := HD.out _ (HM.out.2.2.1.mem_iff.1 (List.mem_of_getElem? hx))
      have hDy : D y := HD.out _ (HM.out.2.2.1.mem_iff.1 (List.mem_of_getElem? hy))
      have hd1 : (k1 : Int).tdiv 2 = (m : Int) := by
        rw [Int.tdiv_eq_ediv_of_nonneg (by omega)]
        omega
      have hd2 : (k1 : Int) / 2 = (m : Int) := by omega
      have a0 : (0 : Int) ≤ (m : Int) := by omega
      have a1 : (m : Int) < (n : Int) + 1 := by omega
      have b0 : (0 : Int) ≤ (k1 : Int) + 1 := by omega
      have b1 : (k1 : Int) + 1 < (n : Int) + 1 := by omega
      have hwb : ∀ u, Below wr.heap.size wr u → Keep F (LessAt krV fv R D) u := fun u hu => (HL.out.go HM.out.2.1 fun _ h => .inl h).below hu
      have HWB := Lib.hid hwb
      clear hx hy hwb
      go_wp2_with fail
      have hcall := fun u (hu : Below wr.heap.size wr u) => hpAhead_KrT x y s t (HM.out.1.later hu).blk (HWB.out u hu) hDx hDy
      refine wp_region_mix [(0, false), (1, false), (2, false), (3, false), (4, false), (5, false), (6, false), (7, false), (8, false), (9, true), (10, false)] (fun u => Below wr.heap.size wr u) (by kernel_rfl) (by kernel_rfl) (by decide +kernel) rfl (Below.refl _ _).drew ?_
      repeat
        (refine mix_read (o := ⟨_, _, _, _, _, _⟩) (v := ?_) rfl (by rfl) (fun w' hU => ?_) ?_
         rotate_left
         obtain ⟨hU1, hU2⟩ := HS.out _ hU
         go_simp
         with_reducible rfl
         try simp only [Act.put, List.setIfInBounds_toArray, List.set_cons_zero, List.set_cons_succ])
      refine mix_step (o := ⟨_, _, _, _, _, _⟩) rfl (fun K hK => ?_)
      go_simp
      refine (hcall _ (Below.refl _ _).drew).mono ?_
      rintro e w3 ⟨rfl, hb3'⟩
      have hb3 : Below wr.heap.size wr w3 := (Below.refl _ _).drew.trans hb3'
      refine hK.out _ _ hb3 ?_
      clear hK K hb3' hcall
      try simp only [Act.put, List.setIfInBounds_toArray, List.set_cons_zero, List.set_cons_succ]
      repeat
        (refine mix_read (o := ⟨_, _, _, _, _, _⟩) (v := ?_) rfl (by rfl) (fun w' hU => ?_) ?_
         rotate_left
         go_simp
         with_reducible rfl
         try simp only [Act.put, List.setIfInBounds_toArray, List.set_cons_zero, List.set_cons_succ])
      refine mix_done ?_
      have HB3 := Lib.hid hb3
      have HM3 := Lib.hid (HM.out.1.later hb3)
      have HA3 : Hid (Apt F w w3) := Lib.hid (HM.out.2.1.trans (Apt.of_below hb3))
      clear hb3
      generalize hbb : turnB R (x, s) (y, t) = bb
      cases bb with
      | false =>
        have HE : Hid (HeapOk (turnB R) b) := Lib.hid (HM.out.2.2.2.done fun u z _ hu hz => by
          rw [HX.out] at hu
          injection hu with hu
          subst hu
          rw [show (k1 + 1 - 1) / 2 = m from hm, HY.out] at hz
          injection hz with hz
          subst hz
          exact hbb)
        clear hbb
        go_wp2_with fail
        refine bodyPost_ret (results_none rfl _ _ _) rfl ?_
        exact ⟨rfl, b, HM3.out, HA3.out, HM.out.2.2.1, HE.out⟩
      | true =>
        have HBB := Lib.hid hbb
        have hfz := fun j => HM3.out.fz rfl j
        obtain ⟨⟨_, ⟨fx0, fx1, fx2⟩⟩, ⟨_, ⟨fy0, fy1, fy2⟩⟩⟩ := HS.out _ HB3.out
        clear hbb
        go_wp2_with fail
        refine wp_region_mix3 13 [(0, 0), (1, 0), (2, 3), (3, 3), (4, 0), (5, 0), (6, 0), (7, 0), (8, 0), (9, 0), (10, 0), (11, 0), (12, 1), (13, 2), (14, 2), (15, 2)] (fun u => Below wr.heap.size wr u) (by kernel_rfl) (by kernel_rfl) (by decide +kernel) rfl HB3.out.drew ?_
        repeat
          (refine mix3_read (o := ⟨_, _, _, _, _, _⟩) (v := ?_) rfl (by rfl) (fun w' hU => ?_) ?_
           rotate_left
           obtain ⟨hU1, hU2⟩ := HS.out _ hU
           go_simp
           with_reducible rfl
           try simp only [Act.put, List.setIfInBounds_toArray, List.set_cons_zero, List.set_cons_succ])
        repeat
          (refine mix3_free (o := ⟨_, _, _, _, _, _⟩) (v := ?_) rfl (by rfl) (fun w' => ?_) ?_
           rotate_left
           go_simp
           with_reducible rfl
           try simp only [Act.put, List.setIfInBounds_toArray, List.set_cons_zero, List.set_cons_succ])
        repeat
          (refine mix3_read (o := ⟨_, _, _, _, _, _⟩) (v := ?_) rfl (by rfl) (fun w' hU => ?_) ?_
           rotate_left
           obtain ⟨hU1, hU2⟩ := HS.out _ hU
           go_simp
           with_reducible rfl
           try simp only [Act.put, List.setIfInBounds_toArray, List.set_cons_zero, List.set_cons_succ])
        refine mix3_step (o := ⟨_, _, _, _, _, _⟩) rfl (fun K hK => ?_)
        go_simp
        refine hK.out _ _ HB3.out.drew ?_
        clear hK K
        try simp only [Act.put, List.setIfInBounds_toArray, List.set_cons_zero, List.set_cons_succ]
        have s1 := HM3.out.own.all3 (i := k1 + 1) (by rw [List.length_map, HLen.out]; omega) (.slice y.A y.n y.c) (.int .i64 (y.pl : Int)) (.int .u64 (t : Int))
        have HG1 : Hid (w3.grownBy (((w3.setCell ⟨q, (k1 + 1) * 3, none⟩ (.slice y.A y.n y.c)).setCell ⟨q, (k1 + 1) * 3 + 1, none⟩ (.int .i64 (y.pl : Int))).setCell ⟨q, (k1 + 1) * 3 + 2, none⟩ (.int .u64 (t : Int))).drew (some q)) := Lib.hid (grown_drewN s1.2 1)
        have HO1 : Hid (OwnL 3 (((w3.setCell ⟨q, (k1 + 1) * 3, none⟩ (.slice y.A y.n y.c)).setCell ⟨q, (k1 + 1) * 3 + 1, none⟩ (.int .i64 (y.pl : Int))).setCell ⟨q, (k1 + 1) * 3 + 2, none⟩ (.int .u64 (t : Int))).drew 0 96 (.slice (some ⟨q, 0, none⟩) (n + 1) c) ((b.map (tuC krCT)).set (k1 + 1) (tuC krCT (y, t)))) := Lib.hid s1.1
        have fz1 : ∀ j, (((w3.setCell ⟨q, (k1 + 1) * 3, none⟩ (.slice y.A y.n y.c)).setCell ⟨q, (k1 + 1) * 3 + 1, none⟩ (.int .i64 (y.pl : Int))).setCell ⟨q, (k1 + 1) * 3 + 2, none⟩ (.int .u64 (t : Int))).drew.frozen? ⟨q, j, none⟩ = false := HO1.out.fz rfl
        refine mix3_store (o := ⟨_, _, _, _, _, _⟩) rfl (fun K hK => ?_)
        go_simp
        refine hK.out _ _ ?_
        clear hK K
        try simp only [Act.put, List.setIfInBounds_toArray, List.set_cons_zero, List.set_cons_succ]
        have hre : ((b.map (tuC krCT)).set (k1 + 1) (tuC krCT (y, t))).set m (tuC krCT (x, s)) = (swapL b (k1 + 1) m (x, s) (y, t)).map (tuC krCT) := by simp [swapL, List.map_set]
        have HRE := Lib.hid hre
        generalize hw4 : (((w3.setCell ⟨q, (k1 + 1) * 3, none⟩ (.slice y.A y.n y.c)).setCell ⟨q, (k1 + 1) * 3 + 1, none⟩ (.int .i64 (y.pl : Int))).setCell ⟨q, (k1 + 1) * 3 + 2, none⟩ (.int .u64 (t : Int))).drew = w4 at *
        have s2 := HO1.out.all3 (i := m) (by rw [List.length_set, List.length_map, HLen.out]; omega) (.slice x.A x.n x.c) (.int .i64 (x.pl : Int)) (.int .u64 (s : Int))
        have HS3 : Hid (HpM 94 96 3 krCT (((w4.setCell ⟨q, m * 3, none⟩ (.slice x.A x.n x.c)).setCell ⟨q, m * 3 + 1, none⟩ (.int .i64 (x.pl : Int))).setCell ⟨q, m * 3 + 2, none⟩ (.int .u64 (s : Int))) F g fv p (swapL b (k1 + 1) m (x, s) (y, t)) (.slice (some ⟨q, 0, none⟩) (n + 1) c)) := Lib.hid (HM3.out.row rfl (grown_trans HG1.out s2.2) (by rw [← HRE.out]; exact s2.1))
        have HAp : Hid (Apt F w3 (((w4.setCell ⟨q, m * 3, none⟩ (.slice x.A x.n x.c)).setCell ⟨q, m * 3 + 1, none⟩ (.int .i64 (x.pl : Int))).setCell ⟨q, m * 3 + 2, none⟩ (.int .u64 (s : Int)))) := Lib.hid (Apt.of_grown (grown_trans HG1.out s2.2) fun z hz => by
          injection hz with hz
          subst hz
          exact HFq.out.1)
        have hl4 := HO1.out.lv.cells (by omega) (i := m) (x := tuC krCT (y, t)) (by
          rw [List.getElem?_set_ne (by omega), List.getElem?_map, HY.out]
          rfl)
        obtain ⟨q', o', hA', _, hc4⟩ := hl4
        injection hA' with hA'
        injection hA' with e1 e2
        subst e1 e2
        have HC4 : Hid (True ∧ w4.cell? ⟨q, m * 3, none⟩ = some (.slice y.A y.n y.c) ∧ w4.cell? ⟨q, m * 3 + 1, none⟩ = some (.int .i64 (y.pl : Int)) ∧ w4.cell? ⟨q, m * 3 + 2, none⟩ = some (.int .u64 (t : Int))) := Lib.hid ⟨trivial, by simpa using hc4 0 _ rfl, by simpa using hc4 1 _ rfl, by simpa using hc4 2 _ rfl⟩
        obtain ⟨_, ⟨fz0, fz1, fz2⟩⟩ := HC4.out
        clear s1 s2 hre hc4 hw4 fx0
        refine mix3_store (o := ⟨_, _, _, _, _, _⟩) rfl (fun K hK => ?_)
        go_simp
        refine hK.out _ _ ?_
        clear hK K
        try simp only [Act.put, List.setIfInBounds_toArray, List.set_cons_zero, List.set_cons_succ]
        refine mix3_store (o := ⟨_, _, _, _, _, _⟩) rfl (fun K hK => ?_)
        go_simp
        refine hK.out _ _ ?_
        clear hK K
        refine mix3_done ?_
        generalize hw5 : (((w4.setCell ⟨q, m * 3, none⟩ (.slice x.A x.n x.c)).setCell ⟨q, m * 3 + 1, none⟩ (.int .i64 (x.pl : Int))).setCell ⟨q, m * 3 + 2, none⟩ (.int .u64 (s : Int))) = w5 at *
        have HRI := Lib.hid (RiseI.step HR.out (fun z hz => HD.out z (HM.out.2.2.1.mem_iff.1 hz)) HM.out.2.2.2 (by omega) HX.out (by rw [show (k1 + 1 - 1) / 2 = m from hm]; exact HY.out) HBB.out)
        rw [show (k1 + 1 - 1) / 2 = m from hm] at HRI
        have HPm := Lib.hid ((swapL_perm HX.out HY.out).trans HM.out.2.2.1)
        have HA5 : Hid (Apt F w w5) := Lib.hid (HA3.out.trans HAp.out)
        clear hw5
        go_wp2_with fail
        go_roundg gk1
        case measure => omega
        case rel => exact ⟨m, _, by omega, by omega, rfl, Lib.hid ⟨HS3.out, HA5.out, HPm.out, HRI.out⟩⟩

set_option maxHeartbeats 6400000 in
theorem hpSink_KrT {w : World} {F : Nat → Prop} {g p : Nat} {fv : Value} {R : KrT → KrT → Bool} {D : KrT → Prop} {a : List (Turn KrT)} {q n c : Nat} (h : HpM 94 96 3 krCT w F g fv p a (.slice (some ⟨q, 0, none⟩) n c)) (hR : WeakO R D) (hL : Keep F (LessAt krV fv R D) w) (hD : ∀ z ∈ a, D z.1) (hI : SinkI (turnB R) a 0) (hnn : n ≤ 1000001) :
    Calls Try.prog 52 #[.pointer (some ⟨g, 0, none⟩), .slice (some ⟨q, 0, none⟩) n c] w fun e w' => e = .returned (.tuple #[]) ∧ ∃ a', HpM 94 96 3 krCT w' F g fv p a' (.slice (some ⟨q, 0, none⟩) n c) ∧ Apt F w w' ∧ a'.Perm a ∧ HeapOk (turnB R) a' := by
  have H := Lib.hid h
  have HR := Lib.hid (turnO hR)
  have HL := Lib.hid hL
  have HD := Lib.hid hD
  have HI := Lib.hid hI
  obtain ⟨HN, HFq, hc1, hc2⟩ : Hid (a.length = n) ∧ Hid (F q ∧ q ≠ g) ∧ n ≤ c ∧ c ≤ 9223372036854775807 := by
    rcases h.form with ⟨e, _⟩ | ⟨q', c', e, hc1, hc2, hF, _, _⟩
    · cases e
    · injection e with e1 e2 e3
      injection e1 with e1
      injection e1 with e1
      subst e1 e3
      exact ⟨Lib.hid e2.symm, Lib.hid hF, by omega, hc2⟩
  clear h hL hD hI
  go_enter Try.func52, Try.ntmps52
  go_wp2_with fail
  go_loopg [4, 5, 6] n (fun gk iv _ _ wr => ∃ (k : Nat) (b : List (Turn KrT)), k + gk = n ∧ iv = .int .i64 (k : Int) ∧ Hid (HpM 94 96 3 krCT wr F g fv p b (.slice (some ⟨q, 0, none⟩) n c) ∧ Apt F w wr ∧ b.Perm a ∧ SinkI (turnB R) b k))
  case atStart => exact ⟨0, a, by omega, rfl, Lib.hid ⟨H.out, Apt.refl _ _, List.Perm.refl _, HI.out⟩⟩
  case round =>
    obtain ⟨k, b, hkg, rfl, HM⟩ := hrel
    obtain ⟨w1, hw1⟩ : ∃ u, u = wr := ⟨_, rfl⟩
    subst hw1
    obtain ⟨gk0, hgk0⟩ : ∃ u, u = gk := ⟨_, rfl⟩
    subst hgk0
    have HLen : Hid (b.length = n) := Lib.hid (by rw [HM.out.2.2.1.length_eq, HN.out])
    go_wp2_with fail
    go_loopg [5, 6] 2 (fun gj xv bv wq => ∃ (f d : Nat), d + gj = 2 * k + 3 ∧ 2 * k + 1 ≤ d ∧ (f = k ∨ f < n) ∧ xv = .int .i64 (f : Int) ∧ bv = .int .i64 (d : Int) ∧ Hid (Below w1.heap.size w1 wq ∧ FirstI (turnB R) b k d f))
    case atStart => exact ⟨k, 2 * k + 1, by omega, by omega, .inl rfl, rfl, by first | rfl | go_num, Lib.hid ⟨Below.refl _ _, FirstI.start k⟩⟩
    case round =>
      obtain ⟨f, d, hdj, hd0, hfn, rfl, rfl, HQ⟩ := hrel
      have HW : Hid (HpM 94 96 3 krCT wr F g fv p b (.slice (some ⟨q, 0, none⟩) n c)) := Lib.hid (HM.out.1.later HQ.out.1)
      have HA : Hid (Apt F w wr) := Lib.hid (HM.out.2.1.trans (Apt.of_below HQ.out.1))
      have hDb : ∀ z ∈ b, D z.1 := fun z hz => HD.out z (HM.out.2.2.1.mem_iff.1 hz)
      have HDb := Lib.hid hDb
      clear hDb
      by_cases c1 : d ≤ 2 * k + 2 ∧ d < n
      · as_aux_lemma =>
          obtain ⟨c1, c2⟩ := c1
          obtain ⟨gj1, hgj1⟩ : ∃ x, gk = x + 1 := ⟨gk - 1, by omega⟩
          have hfl : f < n := by omega
          obtain ⟨⟨x, s⟩, hx⟩ : ∃ z, b[d]? = some z := ⟨_, List.getElem?_eq_getElem (by rw [HLen.out]; omega)⟩
          obtain ⟨⟨y, t⟩, hy⟩ : ∃ z, b[f]? = some z := ⟨_, List.getElem?_eq_getElem (by rw [HLen.out]; omega)⟩
          have HX := Lib.hid hx
          have HY := Lib.hid hy
          have HS : Hid (∀ u, Below wr.heap.size wr u → (True ∧ u.cell? ⟨q, d * 3, none⟩ = some (.slice x.A x.n x.c) ∧ u.cell? ⟨q, d * 3 + 1, none⟩ = some (.int .i64 (x.pl : Int)) ∧ u.cell? ⟨q, d * 3 + 2, none⟩ = some (.int .u64 (s : Int))) ∧ (True ∧ u.cell? ⟨q, f * 3, none⟩ = some (.slice y.A y.n y.c) ∧ u.cell? ⟨q, f * 3 + 1, none⟩ = some (.int .i64 (y.pl : Int)) ∧ u.cell? ⟨q, f * 3 + 2, none⟩ = some (.int .u64 (t : Int)))) := Lib.hid fun u hu => by
            have h := HW.out.later hu
            have c1 := h.cell (by omega) rfl hx
            have c2 := h.cell (by omega) rfl hy
            exact ⟨⟨trivial, by simpa using c1 0 _ rfl, by simpa using c1 1 _ rfl, by simpa using c1 2 _ rfl⟩, ⟨trivial, by simpa using c2 0 _ rfl, by simpa using c2 1 _ rfl, by simpa using c2 2 _ rfl⟩⟩
          have hDx : D x := HDb.out _ (List.mem_of_getElem? hx)
          have hDy : D y := HDb.out _ (List.mem_of_getElem? hy)
          have a0 : (0 : Int) ≤ (d : Int) := by omega
          have a1 : (d : Int) < (n : Int) := by omega
          have b0 : (0 : Int) ≤ (f : Int) := by omega
          have b1 : (f : Int) < (n : Int) := by omega
          have a2 : (d : Int) ≤ 2 * (k : Int) + 2 := by omega
          have hcall := fun u (hu : Below wr.heap.size wr u) => hpAhead_KrT x y s t (HW.out.later hu).blk ((HL.out.go HA.out fun _ h => .inl h).below hu) hDx hDy
          clear hx hy
          go_wp2_with fail
          refine wp_region_mix [(0, false), (1, false), (2, false), (3, false), (4, false), (5, false), (6, false), (7, false), (8, false), (9, true)] (fun u => Below wr.heap.size wr u) (by kernel_rfl) (by kernel_rfl) (by decide +kernel) rfl (Below.refl _ _).drew ?_
          repeat
            (refine mix_read (o := ⟨_, _, _, _, _, _⟩) (v := ?_) rfl (by rfl) (fun w' hU => ?_) ?_
             rotate_left
             obtain ⟨hU1, hU2⟩ := HS.out _ hU
             go_simp
             with_reducible rfl
             try simp only [Act.put, List.setIfInBounds_toArray, List.set_cons_zero, List.set_cons_succ])
          refine mix_step (o := ⟨_, _, _, _, _, _⟩) rfl (fun K hK => ?_)
          go_simp
          refine (hcall _ (Below.refl _ _).drew).mono ?_
          rintro e w3 ⟨rfl, hb3'⟩
          have hb3 : Below wr.heap.size wr w3 := (Below.refl _ _).drew.trans hb3'
          refine hK.out _ _ hb3 ?_
          clear hK K hb3' hcall
          try simp only [Act.put, List.setIfInBounds_toArray, List.set_cons_zero, List.set_cons_succ]
          refine mix_done ?_
          have HB3 : Hid (Below w1.heap.size w1 w3) := Lib.hid (HQ.out.1.trans (hb3.mono HQ.out.1.size))
          clear hb3
          generalize hbb : turnB R (x, s) (y, t) = bb
          cases bb with
          | false =>
            have HF : Hid (FirstI (turnB R) b k (d + 1) f) := Lib.hid (HQ.out.2.skip HX.out HY.out hbb)
            clear hbb
            go_wp2_with fail
            go_roundg gj1
            case measure => omega
            case rel => exact ⟨f, d + 1, by omega, by omega, by omega, rfl, by go_num, Lib.hid ⟨HB3.out, HF.out⟩⟩
          | true =>
            have HF : Hid (FirstI (turnB R) b k (d + 1) d) := Lib.hid (HQ.out.2.take HR.out HDb.out hd0 c1 HX.out HY.out hbb)
            clear hbb
            go_wp2_with fail
            go_roundg gj1
            case measure => omega
            case rel => exact ⟨d, d + 1, by omega, by omega, by omega, rfl, by go_num, Lib.hid ⟨HB3.out, HF.out⟩⟩
      · have HMin : Hid (∀ (j : Nat) (u z : Turn KrT), 0 < j → (j - 1) / 2 = k → b[j]? = some u → b[f]? = some z → turnB R u z = false) := Lib.hid fun j u z h0 hj hu hz => HQ.out.2.min j u z h0 hj (by
          have := (List.getElem?_eq_some_iff.1 hu).1
          rw [HLen.out] at this
          omega) hu hz
        have hcc : (¬ d ≤ 2 * k + 2) ∨ (d ≤ 2 * k + 2 ∧ ¬ d < n) := by omega
        clear c1
        by_cases hfk : f = k
        · subst hfk
          have HE : Hid (HeapOk (turnB R) b) := Lib.hid (HM.out.2.2.2.done HMin.out)
          have hff : ((f : Int) == (f : Int)) = true := by simp
          rcases hcc with h1 | ⟨h1, h2⟩
          all_goals
            go_wp2_with fail
            refine bodyPost_ret (results_none rfl _ _ _) rfl ?_
            exact ⟨rfl, b, HW.out, HA.out, HM.out.2.2.1, HE.out⟩
        · have hff : ((f : Int) == (k : Int)) = false := by simp; omega
          have hfn2 : f < n := by omega
          have hfk0 : k < f := by
            rcases HQ.out.2.at_ with ⟨h, _⟩ | ⟨h1, h2, h3⟩
            · exact absurd h hfk
            · omega
          have HFA : Hid (0 < f ∧ (f - 1) / 2 = k) := Lib.hid (by
            rcases HQ.out.2.at_ with ⟨h, _⟩ | ⟨h1, h2, h3⟩
            · exact absurd h hfk
            · exact ⟨h1, h2⟩)
          have hfb : f < b.length := by rw [HLen.out]; exact hfn2
          obtain ⟨⟨x, s⟩, hx⟩ : ∃ z, b[k]? = some z := ⟨_, List.getElem?_eq_getElem (by rw [HLen.out]; omega)⟩
          obtain ⟨⟨y, t⟩, hy⟩ : ∃ z, b[f]? = some z := ⟨_, List.getElem?_eq_getElem hfb⟩
          have HX := Lib.hid hx
          have HY := Lib.hid hy
          have HS : Hid (∀ u, Below wr.heap.size wr u → (True ∧ u.cell? ⟨q, k * 3, none⟩ = some (.slice x.A x.n x.c) ∧ u.cell? ⟨q, k * 3 + 1, none⟩ = some (.int .i64 (x.pl : Int)) ∧ u.cell? ⟨q, k * 3 + 2, none⟩ = some (.int .u64 (s : Int))) ∧ (True ∧ u.cell? ⟨q, f * 3, none⟩ = some (.slice y.A y.n y.c) ∧ u.cell? ⟨q, f * 3 + 1, none⟩ = some (.int .i64 (y.pl : Int)) ∧ u.cell? ⟨q, f * 3 + 2, none⟩ = some (.int .u64 (t : Int)))) := Lib.hid fun u hu => by
            have h := HW.out.later hu
            have c1 := h.cell (by omega) rfl hx
            have c2 := h.cell (by omega) rfl hy
            exact ⟨⟨trivial, by simpa using c1 0 _ rfl, by simpa using c1 1 _ rfl, by simpa using c1 2 _ rfl⟩, ⟨trivial, by simpa using c2 0 _ rfl, by simpa using c2 1 _ rfl, by simpa using c2 2 _ rfl⟩⟩
          have HBB : Hid (turnB R (y, t) (x, s) = true) := Lib.hid (HQ.out.2.lt _ _ hfk hy hx)
          have a0 : (0 : Int) ≤ (k : Int) := by omega
          have a1 : (k : Int) < (n : Int) := by omega
          have b0 : (0 : Int) ≤ (f : Int) := by omega
          have b1 : (f : Int) < (n : Int) := by omega
          have hfz := fun j => HW.out.fz rfl j
          obtain ⟨⟨_, ⟨fx0, fx1, fx2⟩⟩, ⟨_, ⟨fy0, fy1, fy2⟩⟩⟩ := HS.out _ (Below.refl _ _)
          clear hx hy hfb
          rcases hcc with h1 | ⟨h1, h2⟩
          all_goals as_aux_lemma =>
            go_wp2_with fail
            refine wp_region_mix3 13 [(0, 0), (1, 0), (2, 3), (3, 3), (4, 0), (5, 0), (6, 0), (7, 0), (8, 0), (9, 0), (10, 0), (11, 0), (12, 1), (13, 2), (14, 2), (15, 2)] (fun u => Below wr.heap.size wr u) (by kernel_rfl) (by kernel_rfl) (by decide +kernel) rfl (Below.refl _ _).drew ?_
            repeat
              (refine mix3_read (o := ⟨_, _, _, _, _, _⟩) (v := ?_) rfl (by rfl) (fun w' hU => ?_) ?_
               rotate_left
               obtain ⟨hU1, hU2⟩ := HS.out _ hU
               go_simp
               with_reducible rfl
               try simp only [Act.put, List.setIfInBounds_toArray, List.set_cons_zero, List.set_cons_succ])
            repeat
              (refine mix3_free (o := ⟨_, _, _, _, _, _⟩) (v := ?_) rfl (by rfl) (fun w' => ?_) ?_
               rotate_left
               go_simp
               with_reducible rfl
               try simp only [Act.put, List.setIfInBounds_toArray, List.set_cons_zero, List.set_cons_succ])
            repeat
              (refine mix3_read (o := ⟨_, _, _, _, _, _⟩) (v := ?_) rfl (by rfl) (fun w' hU => ?_) ?_
               rotate_left
               obtain ⟨hU1, hU2⟩ := HS.out _ hU
               go_simp
               with_reducible rfl
               try simp only [Act.put, List.setIfInBounds_toArray, List.set_cons_zero, List.set_cons_succ])
            refine mix3_step (o := ⟨_, _, _, _, _, _⟩) rfl (fun K hK => ?_)
            go_simp
            refine hK.out _ _ (Below.refl _ _).drew ?_
            clear hK K
            try simp only [Act.put, List.setIfInBounds_toArray, List.set_cons_zero, List.set_cons_succ]
            have s1 := HW.out.own.all3 (i := k) (by rw [List.length_map, HLen.out]; omega) (.slice y.A y.n y.c) (.int .i64 (y.pl : Int)) (.int .u64 (t : Int))
            have HG1 : Hid (wr.grownBy (((wr.setCell ⟨q, k * 3, none⟩ (.slice y.A y.n y.c)).setCell ⟨q, k * 3 + 1, none⟩ (.int .i64 (y.pl : Int))).setCell ⟨q, k * 3 + 2, none⟩ (.int .u64 (t : Int))).drew (some q)) := Lib.hid (grown_drewN s1.2 1)
            have HO1 : Hid (OwnL 3 (((wr.setCell ⟨q, k * 3, none⟩ (.slice y.A y.n y.c)).setCell ⟨q, k * 3 + 1, none⟩ (.int .i64 (y.pl : Int))).setCell ⟨q, k * 3 + 2, none⟩ (.int .u64 (t : Int))).drew 0 96 (.slice (some ⟨q, 0, none⟩) n c) ((b.map (tuC krCT)).set k (tuC krCT (y, t)))) := Lib.hid s1.1
            have fz1 : ∀ j, (((wr.setCell ⟨q, k * 3, none⟩ (.slice y.A y.n y.c)).setCell ⟨q, k * 3 + 1, none⟩ (.int .i64 (y.pl : Int))).setCell ⟨q, k * 3 + 2, none⟩ (.int .u64 (t : Int))).drew.frozen? ⟨q, j, none⟩ = false := HO1.out.fz rfl
            refine mix3_store (o := ⟨_, _, _, _, _, _⟩) rfl (fun K hK => ?_)
            go_simp
            refine hK.out _ _ ?_
            clear hK K
            try simp only [Act.put, List.setIfInBounds_toArray, List.set_cons_zero, List.set_cons_succ]
            have hre : ((b.map (tuC krCT)).set k (tuC krCT (y, t))).set f (tuC krCT (x, s)) = (swapL b k f (x, s) (y, t)).map (tuC krCT) := by simp [swapL, List.map_set]
            have HRE := Lib.hid hre
            generalize hw4 : (((wr.setCell ⟨q, k * 3, none⟩ (.slice y.A y.n y.c)).setCell ⟨q, k * 3 + 1, none⟩ (.int .i64 (y.pl : Int))).setCell ⟨q, k * 3 + 2, none⟩ (.int .u64 (t : Int))).drew = w4 at *
            have s2 := HO1.out.all3 (i := f) (by rw [List.length_set, List.length_map, HLen.out]; omega) (.slice x.A x.n x.c) (.int .i64 (x.pl : Int)) (.int .u64 (s : Int))
            have HS3 : Hid (HpM 94 96 3 krCT (((w4.setCell ⟨q, f * 3, none⟩ (.slice x.A x.n x.c)).setCell ⟨q, f * 3 + 1, none⟩ (.int .i64 (x.pl : Int))).setCell ⟨q, f * 3 + 2, none⟩ (.int .u64 (s : Int))) F g fv p (swapL b k f (x, s) (y, t)) (.slice (some ⟨q, 0, none⟩) n c)) := Lib.hid (HW.out.row rfl (grown_trans HG1.out s2.2) (by rw [← HRE.out]; exact s2.1))
            have HAp : Hid (Apt F wr (((w4.setCell ⟨q, f * 3, none⟩ (.slice x.A x.n x.c)).setCell ⟨q, f * 3 + 1, none⟩ (.int .i64 (x.pl : Int))).setCell ⟨q, f * 3 + 2, none⟩ (.int .u64 (s : Int)))) := Lib.hid (Apt.of_grown (grown_trans HG1.out s2.2) fun z hz => by
              injection hz with hz
              subst hz
              exact HFq.out.1)
            have hl4 := HO1.out.lv.cells (by omega) (i := f) (x := tuC krCT (y, t)) (by
              rw [List.getElem?_set_ne (by omega), List.getElem?_map, HY.out]
              rfl)
            obtain ⟨q', o', hA', _, hc4⟩ := hl4
            injection hA' with hA'
            injection hA' with e1 e2
            subst e1 e2
            have HC4 : Hid (True ∧ w4.cell? ⟨q, f * 3, none⟩ = some (.slice y.A y.n y.c) ∧ w4.cell? ⟨q, f * 3 + 1, none⟩ = some (.int .i64 (y.pl : Int)) ∧ w4.cell? ⟨q, f * 3 + 2, none⟩ = some (.int .u64 (t : Int))) := Lib.hid ⟨trivial, by simpa using hc4 0 _ rfl, by simpa using hc4 1 _ rfl, by simpa using hc4 2 _ rfl⟩
            obtain ⟨_, ⟨fz0, fz1, fz2⟩⟩ := HC4.out
            clear s1 s2 hre hc4 hw4 fx0
            refine mix3_store (o := ⟨_, _, _, _, _, _⟩) rfl (fun K hK => ?_)
            go_simp
            refine hK.out _ _ ?_
            clear hK K
            try simp only [Act.put, List.setIfInBounds_toArray, List.set_cons_zero, List.set_cons_succ]
            refine mix3_store (o := ⟨_, _, _, _, _, _⟩) rfl (fun K hK => ?_)
            go_simp
            refine hK.out _ _ ?_
            clear hK K
            refine mix3_done ?_
            generalize hw5 : (((w4.setCell ⟨q, f * 3, none⟩ (.slice x.A x.n x.c)).setCell ⟨q, f * 3 + 1, none⟩ (.int .i64 (x.pl : Int))).setCell ⟨q, f * 3 + 2, none⟩ (.int .u64 (s : Int))) = w5 at *
            have HRI := Lib.hid (SinkI.step HR.out HDb.out HM.out.2.2.2 HFA.out.1 HFA.out.2 HX.out HY.out HBB.out (fun j u h0 hj hu => HMin.out j u _ h0 hj hu HY.out))
            have HPm := Lib.hid ((swapL_perm HX.out HY.out).trans HM.out.2.2.1)
            have HA5 : Hid (Apt F w w5) := Lib.hid (HA.out.trans HAp.out)
            clear hw5
            go_wp2_with fail
            go_roundg (n - f)
            case measure => omega
            case rel => exact ⟨f, _, by omega, rfl, Lib.hid ⟨HS3.out, HA5.out, HPm.out, HRI.out⟩⟩
end Go.Proofs.Ytpanpebllapbcaa

/-
  ReadFinds, walked: of what was written all is read; of what was altered nothing but an error, or what was written. Conditions: what each says; of the library's tables: Ld.
-/
import Derived.Test.YtfaefacefdkjdaaGreatDoorRdG
import Derived.Test.YtfaefacefdkjdaaGreatDoorRdC
namespace Go.Proofs.YtfaefacefdkjdaaGreatDoor
open Go.RowKit
set_option maxRecDepth 100000

set_option maxHeartbeats 12800000 in
theorem readFinds_any (id : Nat) (v : Value) (l : List Tn) (s : Sz) (tr : Nat) (nm : List UInt8) (at_ x fails : Int) (w : World) (h : Ts w v l) (hid : id < 18446744073709551616) (htr : tr < 18446744073709551616) (hnl : nm.length ≤ 9223372036854775807) (ha0 : -9223372036854775808 ≤ at_) (ha1 : at_ ≤ 9223372036854775807) (hx0 : 0 ≤ x) (hx1 : x ≤ 255) (hf0 : -9223372036854775808 ≤ fails) (hf1 : fails ≤ 9223372036854775807) (hll : l.length ≤ 140737488355328) (hL : Ld w) :
    Calls Tryz.prog 4 #[.int .u64 (id : Int), v, szV s, .int .u64 (tr : Int), .string (Bstr nm), .int .i64 at_, .int .u8 x, .int .i64 fails] w fun e w' => e = .returned (.bool true) ∧ Below w.heap.size w w' := by
  have hids := ids_of h
  obtain ⟨pg, sh, bi, hs⟩ := s
  obtain ⟨A, c, rfl, hc1, hc2⟩ := h.form
  have HIDS := Lib.hid hids
  have H := Lib.hid h
  have HLD := Lib.hid hL
  have HB0 : Hid (Below w.heap.size w (w.alloc (.cells #[.int .i64 pg, .int .i64 sh, .int .i64 bi, .int .i64 hs] 25))) := Lib.hid ((Below.refl _ _).alloc (Nat.le_refl _) _)
  have HS0 : Hid (Blk (w.alloc (.cells #[.int .i64 pg, .int .i64 sh, .int .i64 bi, .int .i64 hs] 25)) w.heap.size 25 #[.int .i64 pg, .int .i64 sh, .int .i64 bi, .int .i64 hs]) := Lib.hid (Blk.new _ _ _)
  have hFew := fun u (hu : Ts u (.slice A l.length c) l) => FewTraces_any _ l 200 u hu hll
  simp only [szV]
  clear h hL hids
  go_enter Tryz.func4, Tryz.ntmps4
  go_wp2_with fail
  revert HB0 HS0
  generalize w.alloc (.cells #[.int .i64 pg, .int .i64 sh, .int .i64 bi, .int .i64 hs] 25) = w0
  intro HB0 HS0
  refine (up15_any _ (HLD.out.below HB0.out)).mono ?_
  rintro e w1 ⟨rfl, hb1⟩
  have HB1 := Lib.hid (HB0.out.trans (hb1.mono HB0.out.size))
  have HS1 := Lib.hid (HS0.out.below hb1 HS0.out.lt)
  clear hb1 HB0 HS0
  go_wp2_with fail
  refine (hFew _ (H.out.below HB1.out)).mono ?_
  rintro e w2 ⟨rfl, rfl⟩
  clear hFew
  have hnew := snew_ok 1000000 w1 (by omega) (by omega)
  cases hf : fewT l 200 with
  | false =>
    go_wp2_with fail
    refine hnew.mono ?_
    rintro e w3 ⟨g, F, rfl, _, hb3, _⟩
    have HB3 := Lib.hid (HB1.out.trans (hb3.mono HB1.out.size))
    clear hb3 hnew hf
    go_wp2_with fail
    go_ret
    exact ⟨rfl, HB3.out⟩
  | true =>
    obtain ⟨f1, f2, _⟩ := pfew (n := 200) hf
    clear hf
    go_wp2_with fail
    refine hnew.mono ?_
    rintro e w3 ⟨g, F, rfl, hP3, hb3, hF3⟩
    have HS3 := Lib.hid (HS1.out.below hb3 HS1.out.lt)
    have hgs := HS1.out.lt
    obtain ⟨m1, hm1⟩ : ∃ m : Sm, m = ⟨1000000, -1, 0, []⟩ := ⟨_, rfl⟩
    have HK1 : Hid (Kept m1 ∧ m1.fine 0 ∧ m1.l = [] ∧ m1.left = -1) := Lib.hid (by rw [hm1]; exact ⟨⟨Rise.nil, (fun o ho => by cases ho), by show ((usedL [] : Nat) : Int) ≤ 1000000; simp [usedL]⟩, fine_start 1000000 (by omega) (by omega), rfl, rfl⟩)
    have HW3 : Hid (W2 (fun u => Blk u w.heap.size 25 #[.int .i64 pg, .int .i64 sh, .int .i64 bi, .int .i64 hs]) w1 w3 (stA g m1) F nB (fun _ => False)) := Lib.hid
      ⟨hb3, hm1 ▸ hP3, fun _ h => h, hF3, fun _ h => h.elim, fun _ _ h => h, keepBlk HS3.out fun hbad => by
        rcases hbad with h | h
        · have := hF3 _ h
          omega
        · exact h⟩
    clear hnew hP3 hb3 hF3 HS3 HS1 hgs hm1
    have HTS : Hid (∀ u, Below w1.heap.size w1 u → Ts u (.slice A l.length c) l ∧ Ld u) := Lib.hid fun u hu => by
      have h1 := HB1.out.trans (hu.mono HB1.out.size)
      exact ⟨H.out.below h1, HLD.out.below h1⟩
    have HLU : Hid (∀ u, Below w1.heap.size w1 u → Ld u) := Lib.hid fun u hu => (HTS.out u hu).2
    obtain ⟨sz, hsz⟩ : ∃ z : Sz, z = ⟨pg, sh, bi, hs⟩ := ⟨_, rfl⟩
    obtain ⟨M, hMe⟩ : ∃ z, z = wrM m1 id 0 l sz := ⟨_, rfl⟩
    obtain ⟨mr, hmr⟩ : ∃ z, z = (wrA m1 id 0 l sz).1 := ⟨_, rfl⟩
    obtain ⟨cd, hcd⟩ : ∃ z, z = (wrA m1 id 0 l sz).2 := ⟨_, rfl⟩
    have hNR : mr.fine (0 + 203) := by rw [hmr]; exact wrA_fine HK1.out.2.1 _ _ _ _ (by omega)
    have HKR : Hid (Kept mr ∧ mr.fine 203 ∧ mr.left = -1 ∧ ∀ n o, fnd n mr.l = some o → ∃ x, o.b = sealedOf x) := Lib.hid ⟨by rw [hmr]; exact HK1.out.1.wrA _ _ _ _, hNR, by rw [hmr]; exact wrA_left1 HK1.out.2.2.2 _ _ _ _, by rw [hmr]; exact wrA_sealed HK1.out.2.2.1⟩
    have HYES : Hid (cd = 0 → HasAll mr id l sz) := Lib.hid fun e => by
      rw [hcd] at e
      rw [hmr] at hNR ⊢
      exact HasAll.of_write hNR hid (by omega) HIDS.out e
    have hWr := bwrite_any (N := 0) id 0 _ l sz w3 HW3.out.a HK1.out.2.1 (by omega) (fun u hu => (HTS.out u (HW3.out.below.trans (hu.mono HW3.out.below.size))).1) hid (by omega) (HTS.out _ HW3.out.below).2
    rw [← hMe, ← hmr, ← hcd, hsz] at hWr
    clear hMe hmr hcd hNR hsz
    obtain ⟨mi, ml, ms, mn, mp, mt⟩ := M
    simp only [meV, szV] at hWr
    have b0 := HW3.out.x.cell 0
    have b1 := HW3.out.x.cell 1
    have b2 := HW3.out.x.cell 2
    have b3 := HW3.out.x.cell 3
    simp at b0 b1 b2 b3
    go_wp2_with fail
    refine hWr.mono ?_
    rintro e w7 ⟨rfl, F7, hP7, hG7⟩
    have hb8 : Below w7.heap.size w7 (w7.alloc (.cells #[.int .u64 mi, .int .i64 ml, .int .i64 ms, .int .i64 mn, .int .i64 mp, .int .i64 mt] 34)) := (Below.refl _ _).alloc (Nat.le_refl _) _
    have HW8 : Hid (W2 (fun _ => True) w1 (w7.alloc (.cells #[.int .u64 mi, .int .i64 ml, .int .i64 ms, .int .i64 mn, .int .i64 mp, .int .i64 mt] 34)) (stA g mr) F7 nB (fun _ => False)) := Lib.hid (((HW3.out.stepA (A' := stA g mr) (stA_thing _ _) nB_thing hP7 hG7.apt hG7.new).say (X' := fun _ => True) fun _ _ => trivial).later (stA_thing _ _) nB_thing hb8)
    clear hWr hP7 hG7 HW3 b0 b1 b2 b3 hb8
    by_cases hcd : cd = 0
    rotate_left
    · have hce := errV_code hcd
      rw [hce]
      clear HYES HKR
      go_wp2_with fail
      go_ret
      exact ⟨rfl, HB1.out.trans (HW8.out.below.mono HB1.out.size)⟩
    subst hcd
    have HA := Lib.hid (HYES.out rfl)
    simp only [errV_zero]
    clear HYES HK1
    go_wp2_with fail
    revert HW8
    generalize w7.alloc (.cells #[.int .u64 mi, .int .i64 ml, .int .i64 ms, .int .i64 mn, .int .i64 mp, .int .i64 mt] 34) = w8
    intro HW8
    go_loopg [23, 24] l.length (fun gk vv iv wr => ∃ (k : Nat) (Fk : Nat → Prop) (mk : Sm), k + gk = l.length ∧ iv = .int .i64 (k : Int) ∧ Hid (W2 (fun u => Ss u vv (spOf tr (l.take k))) w1 wr (stA g mk) Fk nB (fun _ => False) ∧ mk.l = mr.l ∧ mk.left = -1 ∧ mk.fine (203 + 3 * k)))
    case atStart => exact ⟨0, F7, mr, by omega, rfl, Lib.hid ⟨HW8.out.say fun _ _ => Ss.nil _, rfl, HKR.out.2.2.1, HKR.out.2.1⟩⟩
    case round =>
      obtain ⟨k, Fk, mk, hk, rfl, HW⟩ := hrel
      clear HW8
      by_cases hlt : k < l.length
      · obtain ⟨gk1, hgk1⟩ : ∃ x, gk = x + 1 := ⟨gk - 1, by omega⟩
        obtain ⟨t, ht⟩ : ∃ t, l[k]? = some t := ⟨_, List.getElem?_eq_getElem hlt⟩
        obtain ⟨gx, px, d, hAx, hgx, x0, x1, hd, htid0, htid1⟩ := Ts.cells (HTS.out _ (Below.refl _ _)).1 ht
        subst hAx
        obtain ⟨tid, hti⟩ := nat_of (n := t.id) htid0
        rw [hti] at x0 htid1
        have htm : t ∈ l := List.mem_of_getElem? ht
        have HSP : Hid (spOf tid l = t.sp) := Lib.hid (spOf_mem HA.out.flat htm hti)
        have HTK : Hid (spOf tr (l.take (k + 1)) = if (tid : Int) = (tr : Int) then t.sp else spOf tr (l.take k)) := Lib.hid (by rw [spOf_take HA.out.flat ht, hti])
        have HDD := Lib.hid hd
        have hAk : HasAll mk id l sz := HA.out.same HW.out.2.1
        have hfd := hAk.find (tr := tid) HW.out.2.2.1
        have HM1 : Hid ((fiR mk id tid).2.l = mr.l ∧ (fiR mk id tid).2.left = -1) := Lib.hid ⟨(fiR_l _ _ _).trans HW.out.2.1, fiR_left _ _ HW.out.2.2.1⟩
        have hRF := rfind_any (N := 203 + 3 * k) id tid HW.out.1.a HW.out.2.2.2 (by omega) hid (by omega) (Keep.of_old HLU.out HW.out.1.below HW.out.1.fge)
        rw [hfd, HSP.out] at hRF
        generalize (fiR mk id tid).2 = m2 at hRF HM1
        simp only [errV_zero] at hRF
        have hB := HW.out.1.below
        have y0 := (hB.cell hgx).trans x0
        have y1 := (hB.cell hgx).trans x1
        have a0 : (0 : Int) ≤ (k : Int) := by omega
        have a1 : (k : Int) < (l.length : Int) := by omega
        obtain ⟨Ad, cd, rfl, _, _⟩ := hd.form
        clear hAk hfd htm hd ht
        go_wp2_with fail
        refine hRF.mono ?_
        rintro e w9 ⟨y, F9, rfl, hP9, hM9, hK9, hG9⟩
        have HW9 : Hid (W2 (fun u => Ss u y t.sp ∧ Ss u u23 (spOf tr (l.take k)) ∧ Ss u (.slice Ad t.sp.length cd) t.sp) w1 w9 (stA g m2) F9 nB (fun _ => False)) := Lib.hid (by
          have h1 := HW.out.1.stepA (A' := stA g m2) (stA_thing _ _) nB_thing hP9 hG9.apt hG9.new
          refine h1.say (Keep.and (hK9.less fun q hq => ?_) (h1.kx.and (Keep.of_old (w0 := w1) (fun u hu => HDD.out.below hu) h1.below h1.bad_ge)))
          exact hq.elim (fun h => .inl (.inr h)) fun h => h.elim)
        have HM9 := Lib.hid hM9
        clear hRF hP9 hM9 hK9 hG9 hB HW
        have z0 := (HW9.out.below.cell hgx).trans x0
        have z1 := (HW9.out.below.cell hgx).trans x1
        clear y0 y1
        have hSp := Spans_same y (.slice Ad t.sp.length cd) t.sp w9 HW9.out.x.1 HW9.out.x.2.2
        go_wp2_with fail
        refine hSp.mono ?_
        rintro e w10 ⟨rfl, hb10⟩
        have HW10 := Lib.hid (HW9.out.later (stA_thing _ _) nB_thing hb10)
        clear hSp hb10 HW9 z0 z1
        have z0 := (HW10.out.below.cell hgx).trans x0
        have z1 := (HW10.out.below.cell hgx).trans x1
        by_cases he : (tid : Int) = (tr : Int)
        · have hbe : ((tid : Int) == (tr : Int)) = true := by simpa using he
          have HE : Hid (spOf tr (l.take (k + 1)) = t.sp) := Lib.hid (by rw [HTK.out, if_pos he])
          clear he HTK
          go_wp2_with fail
          go_roundg gk1
          case measure => omega
          case rel => exact ⟨k + 1, F9, m2, by omega, by go_num, Lib.hid ⟨by rw [HE.out]; exact HW10.out.say fun u hu => (HW10.out.kx u hu).2.2, HM1.out.1, HM1.out.2, HM9.out.more (by omega)⟩⟩
        · have hbe : ((tid : Int) == (tr : Int)) = false := by simpa using he
          have HE : Hid (spOf tr (l.take (k + 1)) = spOf tr (l.take k)) := Lib.hid (by rw [HTK.out, if_neg he])
          clear he HTK
          go_wp2_with fail
          go_roundg gk1
          case measure => omega
          case rel => exact ⟨k + 1, F9, m2, by omega, by go_num, Lib.hid ⟨by rw [HE.out]; exact HW10.out.say fun u hu => (HW10.out.kx u hu).2.1, HM1.out.1, HM1.out.2, HM9.out.more (by omega)⟩⟩
      · have hkn : k = l.length := by omega
        have HWT : Hid (spOf tr (l.take k) = spOf tr l) := Lib.hid (by rw [hkn, List.take_length])
        have HAk : Hid (HasAll mk id l sz) := Lib.hid (HA.out.same HW.out.2.1)
        have HFk : Hid (mk.fine 503 ∧ mk.left = -1 ∧ mk.l = mr.l) := Lib.hid ⟨HW.out.2.2.2.more (by omega), HW.out.2.2.1, HW.out.2.1⟩
        have HWk : Hid (W2 (fun u => Ss u u23 (spOf tr l)) w1 wr (stA g mk) Fk nB (fun _ => False)) := Lib.hid (HWT.out ▸ HW.out.1)
        clear HW hkn HWT
        have hfd := HAk.out.find (tr := tr) HFk.out.2.1
        have hM1 : (fiR mk id tr).2.l = mr.l ∧ (fiR mk id tr).2.left = -1 := ⟨(fiR_l _ _ _).trans HFk.out.2.2, fiR_left _ _ HFk.out.2.1⟩
        have hRF := rfind_any (N := 503) id tr HWk.out.a HFk.out.1 (by omega) hid htr (Keep.of_old HLU.out HWk.out.below HWk.out.fge)
        rw [hfd] at hRF
        generalize (fiR mk id tr).2 = m2 at hRF hM1
        have HM1 := Lib.hid hM1
        simp only [errV_zero] at hRF
        clear hfd hM1 HAk HFk
        go_wp2_with fail
        refine hRF.mono ?_
        rintro e w9 ⟨y, F9, rfl, hP9, hM9, hK9, hG9⟩
        have HW9 : Hid (W2 (fun u => Ss u y (spOf tr l) ∧ Ss u u23 (spOf tr l)) w1 w9 (stA g m2) F9 nB (fun _ => False)) := Lib.hid (by
          have h1 := HWk.out.stepA (A' := stA g m2) (stA_thing _ _) nB_thing hP9 hG9.apt hG9.new
          refine h1.say (Keep.and (hK9.less fun q hq => ?_) h1.kx)
          exact hq.elim (fun h => .inl (.inr h)) fun h => h.elim)
        have HM9 := Lib.hid hM9
        clear hRF hP9 hM9 hK9 hG9 HWk
        have hSp := Spans_same y u23 (spOf tr l) w9 HW9.out.x.1 HW9.out.x.2
        go_wp2_with fail
        refine hSp.mono ?_
        rintro e w10 ⟨rfl, hb10⟩
        have HW10 : Hid (W2 (fun u => Ss u u23 (spOf tr l)) w1 w10 (stA g m2) F9 nB (fun _ => False)) := Lib.hid (by
          have h1 := HW9.out.later (stA_thing _ _) nB_thing hb10
          exact h1.say fun u hu => (h1.kx u hu).2)
        clear hSp hb10 HW9
        have HN : Hid (NearB m2 (sAlt m2 nm at_ (UInt8.ofNat x.toNat)).1) := Lib.hid (NearB.alt (by rw [HM1.out.1]; exact HKR.out.1.rise) (by rw [HM1.out.1]; exact HKR.out.2.2.2) nm at_ _)
        have HA2 : Hid (HasAll m2 id l sz) := Lib.hid (HA.out.same HM1.out.1)
        have hAl := stAlt_any (n := nm) (at_ := at_) (x := x) HW10.out.a HM9.out hnl ha0 ha1 hx0 hx1
        have HM3 : Hid ((sAlt m2 nm at_ (UInt8.ofNat x.toNat)).1.fine 506) := Lib.hid (HM9.out.alt _ _ _)
        generalize (sAlt m2 nm at_ (UInt8.ofNat x.toNat)).1 = m3 at hAl HN HM3
        generalize (sAlt m2 nm at_ (UInt8.ofNat x.toNat)).2 = bb at hAl
        go_wp2_with fail
        refine hAl.mono ?_
        rintro e w11 ⟨rfl, F11, hP11, hA11, hN11⟩
        have HW11 := Lib.hid (HW10.out.stepA (A' := stA g m3) (stA_thing _ _) nB_thing hP11 hA11 hN11)
        clear hAl hP11 hA11 hN11 HW10
        have hfl := sfail_any (n := fails) HW11.out.a hf0 hf1
        go_wp2_with fail
        refine hfl.mono ?_
        rintro e w12 ⟨rfl, hP12, hg12⟩
        obtain ⟨m4, hm4⟩ : ∃ z, z = failS m3 fails := ⟨_, rfl⟩
        have HW12 : Hid (W2 (fun u => Ss u u23 (spOf tr l)) w1 w12 (stA g m4) F11 nB (fun _ => False)) := Lib.hid (by
          rw [hm4]
          exact HW11.out.stepA (A' := stA g (failS m3 fails)) (stA_thing _ _) nB_thing hP12 (Apt.of_grown hg12 fun q hq => by rw [← Option.some.inj hq]; exact hP12.Fg) fun q hq => .inl hq)
        have HN4 : Hid (NearB m2 m4) := Lib.hid (by rw [hm4]; exact HN.out.fail fails)
        have HM4 : Hid (m4.fine 506) := Lib.hid (by rw [hm4]; exact HM3.out.fail fails hf1)
        clear hfl hP12 hg12 HW11 hm4 HN HM3
        have hRF := rfind_any (N := 506) id tr HW12.out.a HM4.out (by omega) hid htr (Keep.of_old HLU.out HW12.out.below HW12.out.fge)
        have HF4 := Lib.hid (HN4.out.find (tr := tr) HA2.out HM1.out.2)
        have HN5 : Hid (NearB m2 (fiR m4 id tr).2) := Lib.hid (by
          intro n
          rw [fiR_l]
          exact HN4.out n)
        generalize fiR m4 id tr = fr at hRF HF4 HN5
        obtain ⟨⟨fc, sp⟩, m5⟩ := fr
        simp only at hRF HF4 HN5
        go_wp2_with fail
        refine hRF.mono ?_
        rintro e w13 ⟨z, F13, rfl, hP13, hM13, hK13, hG13⟩
        have HW13 : Hid (W2 (fun u => Ss u z sp ∧ Ss u u23 (spOf tr l)) w1 w13 (stA g m5) F13 nB (fun _ => False)) := Lib.hid (by
          have h1 := HW12.out.stepA (A' := stA g m5) (stA_thing _ _) nB_thing hP13 hG13.apt hG13.new
          refine h1.say (Keep.and (hK13.less fun q hq => ?_) h1.kx)
          exact hq.elim (fun h => .inl (.inr h)) fun h => h.elim)
        have HM5 := Lib.hid hM13
        clear hRF hP13 hM13 hK13 hG13 HW12 HN4 HM4
        have hRA := rall_any (N := 509) id HW13.out.a HM5.out (by omega) hid (Keep.of_old HLU.out HW13.out.below HW13.out.fge)
        have HG5 := Lib.hid (HN5.out.all HA2.out)
        generalize alR m5 id = ar at hRA HG5
        obtain ⟨⟨ac, all⟩, m6⟩ := ar
        simp only at hRA HG5
        go_wp2_with fail
        refine hRA.mono ?_
        rintro e w14 ⟨tz, F14, rfl, hP14, _, hK14, hG14⟩
        have HW14 : Hid (W2 (fun u => Ts u tz all ∧ Ss u z sp ∧ Ss u u23 (spOf tr l)) w1 w14 (stA g m6) F14 nB (fun _ => False)) := Lib.hid (by
          have h1 := HW13.out.stepA (A' := stA g m6) (stA_thing _ _) nB_thing hP14 hG14.apt hG14.new
          refine h1.say (Keep.and (hK14.less fun q hq => ?_) h1.kx)
          exact hq.elim (fun h => .inl (.inr h)) fun h => h.elim)
        clear hRA hP14 hK14 hG14 HW13 HM5 HN5
        rcases HG5.out with ⟨hac, rfl⟩ | hal
        · rw [errV_code hac]
          obtain ⟨Az, cz, hz, _, _⟩ := HW14.out.x.1.form
          simp only [List.length_nil] at hz
          subst hz
          clear HG5
          rcases HF4.out with ⟨hfc, rfl⟩ | hfo
          · have hce := errV_code hfc
            rw [hce]
            obtain ⟨Ay, cy, hz, _, _⟩ := HW14.out.x.2.1.form
            simp only [List.length_nil] at hz
            subst hz
            clear HF4
            go_wp2_with fail
            have HW15 : Hid (W2 (fun u => Ts u (.slice Az 0 cz) []) w1 w14 (stA g m6) F14 nB (fun _ => False)) := Lib.hid (HW14.out.say fun u hu => (HW14.out.kx u hu).1)
            go_ret
            exact ⟨rfl, HB1.out.trans (HW15.out.below.mono HB1.out.size)⟩
          · obtain ⟨rfl, rfl⟩ := Prod.mk.inj hfo
            simp only [errV_zero]
            have hSp := Spans_same z u23 (spOf tr l) w14 HW14.out.x.2.1 HW14.out.x.2.2
            clear HF4
            go_wp2_with fail
            refine hSp.mono ?_
            rintro e w15 ⟨rfl, hb15⟩
            have HW15 : Hid (W2 (fun u => Ts u (.slice Az 0 cz) []) w1 w15 (stA g m6) F14 nB (fun _ => False)) := Lib.hid (by
              have h1 := HW14.out.later (stA_thing _ _) nB_thing hb15
              exact h1.say fun u hu => (h1.kx u hu).1)
            clear hSp hb15
            go_wp2_with fail
            go_ret
            exact ⟨rfl, HB1.out.trans (HW15.out.below.mono HB1.out.size)⟩
        · obtain ⟨rfl, rfl⟩ := Prod.mk.inj hal
          simp only [errV_zero]
          clear HG5
          rcases HF4.out with ⟨hfc, rfl⟩ | hfo
          · have hce := errV_code hfc
            rw [hce]
            obtain ⟨Ay, cy, hz, _, _⟩ := HW14.out.x.2.1.form
            simp only [List.length_nil] at hz
            subst hz
            clear HF4
            go_wp2_with fail
            have HW15 : Hid (W2 (fun u => Ts u tz all) w1 w14 (stA g m6) F14 nB (fun _ => False)) := Lib.hid (HW14.out.say fun u hu => (HW14.out.kx u hu).1)
            refine (Traces_same tz (.slice A all.length c) all w14 HW15.out.x (HTS.out _ HW15.out.below).1).mono ?_
            rintro e w16 ⟨rfl, hb16⟩
            have HW16 := Lib.hid (HW15.out.later (stA_thing _ _) nB_thing hb16)
            clear hb16
            go_wp2_with fail
            go_ret
            exact ⟨rfl, HB1.out.trans (HW16.out.below.mono HB1.out.size)⟩
          · obtain ⟨rfl, rfl⟩ := Prod.mk.inj hfo
            simp only [errV_zero]
            have hSp := Spans_same z u23 (spOf tr all) w14 HW14.out.x.2.1 HW14.out.x.2.2
            clear HF4
            go_wp2_with fail
            refine hSp.mono ?_
            rintro e w15 ⟨rfl, hb15⟩
            have HW15 : Hid (W2 (fun u => Ts u tz all) w1 w15 (stA g m6) F14 nB (fun _ => False)) := Lib.hid (by
              have h1 := HW14.out.later (stA_thing _ _) nB_thing hb15
              exact h1.say fun u hu => (h1.kx u hu).1)
            clear hSp hb15
            go_wp2_with fail
            refine (Traces_same tz (.slice A all.length c) all w15 HW15.out.x (HTS.out _ HW15.out.below).1).mono ?_
            rintro e w16 ⟨rfl, hb16⟩
            have HW16 := Lib.hid (HW15.out.later (stA_thing _ _) nB_thing hb16)
            clear hb16
            go_wp2_with fail
            go_ret
            exact ⟨rfl, HB1.out.trans (HW16.out.below.mono HB1.out.size)⟩

theorem readFinds_int (id : Int) (v : Value) (l : List Tn) (s : Sz) (tr : Int) (nm : List UInt8) (at_ x fails : Int) (w : World) (h : Ts w v l) (hi0 : 0 ≤ id) (hi1 : id ≤ 18446744073709551615) (ht0 : 0 ≤ tr) (ht1 : tr ≤ 18446744073709551615) (hnl : nm.length ≤ 9223372036854775807) (ha0 : -9223372036854775808 ≤ at_) (ha1 : at_ ≤ 9223372036854775807) (hx0 : 0 ≤ x) (hx1 : x ≤ 255) (hf0 : -9223372036854775808 ≤ fails) (hf1 : fails ≤ 9223372036854775807) (hll : l.length ≤ 140737488355328) (hL : Ld w) :
    Calls Tryz.prog 4 #[.int .u64 id, v, szV s, .int .u64 tr, .string (Bstr nm), .int .i64 at_, .int .u8 x, .int .i64 fails] w fun e w' => e = .returned (.bool true) ∧ Below w.heap.size w w' := by
  obtain ⟨i, rfl⟩ := nat_of (n := id) hi0
  obtain ⟨r, rfl⟩ := nat_of (n := tr) ht0
  exact readFinds_any i v l s r nm at_ x fails w h (by omega) (by omega) hnl ha0 ha1 hx0 hx1 hf0 hf1 hll hL

end Go.Proofs.YtfaefacefdkjdaaGreatDoor

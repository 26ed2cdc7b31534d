/-
  RosterBack, walked over RosterK; what List tells without an error. Conditions: what each says.
-/
import Derived.Test.YtmlemclehfdneaaGreatDoorRoK
namespace Go.Proofs.YtmlemclehfdneaaGreatDoor
open Go.RowKit
set_option maxRecDepth 100000

theorem nsR_ok {m : Sm} (h : m.left = -1) : nsR m = (0, lvN m.l (sNames m.l [98, 47]), mkN m.l (sNames m.l [98, 47])) := by
  have hc := (left_call h).1
  have hs : sList m [98, 47] = (sNames m.l [98, 47], 0) := by rw [sList, if_neg (by rw [hc]; simp)]
  rw [nsR, hs, if_neg (by simp)]

theorem nsR_call {m : Sm} (h : m.left = -1) : nsR (callS m) = nsR m := by
  rw [nsR_ok h, nsR_ok (left_call h).2]
  rfl

theorem meR_good {m : Sm} {id : Nat} (h : (meR m id).1 = 0) : meP (meR m id).2 ∧ (meR m id).2.id = (id : Int) := by
  unfold meR at h ⊢
  split at h
  · rename_i h1
    exact absurd h h1
  · rename_i h1
    split at h
    · rename_i h2
      exact absurd h h2
    · rename_i h2
      split at h
      · rename_i h3
        rw [if_neg h1, if_neg h2, if_pos h3]
        exact ⟨of_decide_eq_true (meX_may (Classical.not_not.1 h2)), h3⟩
      · cases h

theorem mkX_may {x : List UInt8} (h : (mkX x).1 = 0) : mkP (mkX x).2 := by
  unfold mkX mkOf at h ⊢
  split at h
  · cases h
  · rename_i h1
    split at h
    · rename_i h2
      split at h
      · rename_i h3
        rw [if_neg h1, if_pos h2, if_pos h3]
        exact of_decide_eq_true h3.2
      · cases h
    · cases h

theorem mrR_good {m : Sm} {id : Nat} (h : (mrR m id).1 = 0) : mkP (mrR m id).2 ∧ (mrR m id).2.id = (id : Int) := by
  unfold mrR at h ⊢
  split at h
  · rename_i h1
    exact absurd h h1
  · rename_i h1
    split at h
    · rename_i h2
      exact absurd h h2
    · rename_i h2
      split at h
      · rename_i h3
        rw [if_neg h1, if_neg h2, if_pos h3]
        exact ⟨mkX_may (Classical.not_not.1 h2), h3⟩
      · cases h

theorem loR_ok : ∀ (r : List Nat) (m : Sm) (out : List Me), (loR r m out).1.1 = 0 → ∃ ms, (loR r m out).1.2 = out ++ ms ∧ ms.map (·.id) = r.map (fun i : Nat => (i : Int)) ∧ ∀ x ∈ ms, meP x
  | [], m, out, _ => ⟨[], by simp [loR], rfl, fun x h => by cases h⟩
  | id :: r, m, out, h => by
    by_cases hz : (meR m id).1 = 0
    · rw [loR_on hz] at h ⊢
      obtain ⟨ms, h1, h2, h3⟩ := loR_ok r _ _ h
      refine ⟨(meR m id).2 :: ms, by rw [h1, List.append_assoc]; rfl, by rw [List.map_cons, List.map_cons, h2, (meR_good hz).2], fun x hx => ?_⟩
      rcases List.mem_cons.1 hx with rfl | hx
      · exact (meR_good hz).1
      · exact h3 x hx
    · rw [loR_no hz] at h
      exact absurd h hz

theorem moR_ok : ∀ (r : List Nat) (m : Sm) (out : List Mk), (moR r m out).1.1 = 0 → ∃ ms, (moR r m out).1.2 = out ++ ms ∧ ms.map (·.id) = r.map (fun i : Nat => (i : Int)) ∧ ∀ x ∈ ms, mkP x
  | [], m, out, _ => ⟨[], by simp [moR], rfl, fun x h => by cases h⟩
  | id :: r, m, out, h => by
    by_cases hz : (mrR m id).1 = 0
    · rw [moR_on hz] at h ⊢
      obtain ⟨ms, h1, h2, h3⟩ := moR_ok r _ _ h
      refine ⟨(mrR m id).2 :: ms, by rw [h1, List.append_assoc]; rfl, by rw [List.map_cons, List.map_cons, h2, (mrR_good hz).2], fun x hx => ?_⟩
      rcases List.mem_cons.1 hx with rfl | hx
      · exact (mrR_good hz).1
      · exact h3 x hx
    · rw [moR_no hz] at h
      exact absurd h hz

theorem upM_ids {r : List Nat} (h : r.Pairwise (· < ·)) : UpM (r.map (fun i : Nat => (i : Int))) := fun k a b ha hb => by
  rw [List.getElem?_map] at ha hb
  obtain ⟨x, hx, rfl⟩ := Option.map_eq_some_iff.1 ha
  obtain ⟨y, hy, rfl⟩ := Option.map_eq_some_iff.1 hb
  obtain ⟨i1, e1⟩ := List.getElem?_eq_some_iff.1 hx
  obtain ⟨i2, e2⟩ := List.getElem?_eq_some_iff.1 hy
  have := List.pairwise_iff_getElem.1 h k (k + 1) i1 i2 (Nat.lt_succ_self _)
  rw [e1, e2] at this
  omega

theorem liR_err {m : Sm} (h : (liR m).1.1 ≠ 0) : (liR m).1.2 = ([], []) := by
  unfold liR at h ⊢
  split
  · rfl
  · split
    · rfl
    · split
      · rfl
      · split
        · rfl
        · rename_i h1 h2 h3 h4
          rw [if_neg h1, if_neg h2, if_neg h3, if_neg h4] at h
          exact absurd rfl h

theorem liR_good {m : Sm} (h : (liR m).1.1 = 0) (hu : (nsR m).2.1.Pairwise (· < ·)) (hv : (nsR m).2.2.Pairwise (· < ·)) :
    RosG (liR m).1.2.1 (liR m).1.2.2 ∧ (liR m).1.2.1.length = (nsR m).2.1.length ∧ (liR m).1.2.2.length = (nsR m).2.2.length := by
  unfold liR at h ⊢
  split at h
  · rename_i h1
    exact absurd h h1
  · rename_i h1
    split at h
    · rename_i h2
      exact absurd h h2
    · rename_i h2
      split at h
      · rename_i h3
        exact absurd h h3
      · rename_i h3
        split at h
        · cases h
        · rename_i h4
          rw [if_neg h1, if_neg h2, if_neg h3, if_neg h4]
          obtain ⟨ms, e1, e2, e3⟩ := loR_ok _ _ _ (Classical.not_not.1 h2)
          obtain ⟨ks, f1, f2, f3⟩ := moR_ok _ _ _ (Classical.not_not.1 h3)
          rw [e1, f1, List.nil_append, List.nil_append]
          have l1 : ms.length = (nsR m).2.1.length := by simpa using congrArg List.length e2
          have l2 : ks.length = (nsR m).2.2.length := by simpa using congrArg List.length f2
          exact ⟨⟨e3, by rw [e2]; exact upM_ids hu, f3, by rw [f2]; exact upM_ids hv, by rw [l1]; omega, by rw [l2]; omega⟩, l1, l2⟩

set_option maxHeartbeats 12800000 in
theorem rosterBack_any {L : World → Prop} (hK : RosterK L) (v : Value) (l : List Ob) (w : World) (h : Pts w v l) (hL : L w) :
    Calls Tryz.prog 5 #[v] w fun e w' => e = .returned (.bool true) ∧ Below w.heap.size w w' := by
  have hLw : ∀ u, Below w.heap.size w u → L u := fun u hu => hK.later hL hu
  have HLW := Lib.hid hLw
  have HP := Lib.hid fun (u : World) (hu : Below w.heap.size w u) => (show Pts u v l from by
    obtain ⟨xs, h1, h2⟩ := h
    exact ⟨xs, h1.below hu, h2.mono fun _ _ ⟨hn, z, hz, hb⟩ => ⟨hn, z, hz, hb.below hu⟩⟩)
  clear h hL hLw
  go_enter Tryz.func5, Tryz.ntmps5
  go_wp2_with fail
  refine (up17_any hK _ (HLW.out _ (Below.refl _ _))).mono ?_
  rintro e w1 ⟨rfl, hb1⟩
  have HB1 := Lib.hid hb1
  clear hb1
  go_wp2_with fail
  refine (Filled_any v l _ (HP.out _ HB1.out)).mono ?_
  rintro e w2 hcase
  rcases hcase with ⟨g, rfl, hb2⟩ | ⟨g, gy, F, G, m, rfl, hmf, hml, hnms, hW2⟩
  · have HB2 := Lib.hid (HB1.out.trans (hb2.mono HB1.out.size))
    clear hb2
    go_wp2_with fail
    go_ret
    exact ⟨rfl, HB2.out⟩
  have HW2 := Lib.hid hW2
  have HM := Lib.hid hmf
  have HNMS := Lib.hid hnms
  clear hnms
  have HLU : Hid (∀ u, Below w1.heap.size w1 u → L u) := Lib.hid fun u hu => HLW.out _ (HB1.out.trans (hu.mono HB1.out.size))
  have HFIN : Hid (∀ u, Below w1.heap.size w1 u → Below w.heap.size w u) := Lib.hid fun u hu => HB1.out.trans (hu.mono HB1.out.size)
  have hup := sNames_up hW2.a.rise [98, 47]
  have HUA := Lib.hid (lvN_up (l := m.l) hup)
  have HUB := Lib.hid (mkN_up (l := m.l) hup)
  have HNE := Lib.hid fun (i : Nat) (h1 : i ∈ lvN m.l (sNames m.l [98, 47])) (h2 : i ∈ mkN m.l (sNames m.l [98, 47])) => lvN_mkN h1 h2
  have hns := nsR_ok hml
  have HNC := Lib.hid (nsR_call hml)
  have hnl := nsR_len m
  have hlen := hmf.len
  have hNm := hK.names HW2.out.a HM.out HNMS.out (by omega) (Keep.of_old HLU.out HW2.out.below HW2.out.fge)
  have HM2 : Hid ((callS m).fine 101) := Lib.hid HM.out.call
  rw [hns] at hNm hnl HNC
  simp only [errV_zero] at hNm
  generalize lvN m.l (sNames m.l [98, 47]) = na at HUA HNE HNC hNm hnl
  generalize mkN m.l (sNames m.l [98, 47]) = nb at HUB HNE HNC hNm hnl
  simp only at hnl
  have HNL : Hid (na.length ≤ 100 ∧ nb.length ≤ 100) := Lib.hid (by omega)
  clear hW2 hmf hml hup hns hnl hlen HLW HP HB1
  go_wp2_with fail
  refine hNm.mono ?_
  rintro e w3 ⟨a, b, F3, rfl, hP3, hG3, hX3⟩
  have HW3 : Hid (W2 (fun u => Us u a na ∧ Us u b nb) w1 w3 (stA g (callS m)) F3 (stB gy gy m) G) := Lib.hid ((HW2.out.stepA (A' := stA g (callS m)) (stA_thing _ _) (stB_thing _ _ _) hP3 hG3.apt hG3.new).say (hX3.less fun q hq => by
    rcases hq with h | h
    · exact .inl (.inr h)
    · exact .inl (.inl ((stB_thing _ _ _).lt HW2.out.b q h))))
  clear hNm hP3 hG3 hX3 HW2
  obtain ⟨A, ca, rfl, _, _⟩ := HW3.out.x.1.form
  obtain ⟨B, cb, rfl, _, _⟩ := HW3.out.x.2.form
  have HUS : Hid (∀ u, Below w3.heap.size w3 u → Us u (.slice A na.length ca) na ∧ Us u (.slice B nb.length cb) nb) := Lib.hid fun u hu => ⟨HW3.out.x.1.below hu, HW3.out.x.2.below hu⟩
  go_wp2_with fail
  go_loopg [10] na.length (fun gk iv wr => ∃ i : Nat, i + gk = na.length ∧ iv = .int .i64 (i : Int) ∧ Hid (Below w3.heap.size w3 wr))
  case atStart => exact ⟨0, by omega, rfl, Lib.hid (Below.refl _ _)⟩
  case round =>
    obtain ⟨i, hi, rfl, HB⟩ := hrel
    by_cases hlt : i < na.length
    · obtain ⟨gk1, hgk1⟩ : ∃ x, gk = x + 1 := ⟨gk - 1, by omega⟩
      obtain ⟨x, hx⟩ : ∃ x, na[i]? = some x := ⟨_, List.getElem?_eq_getElem hlt⟩
      have HX := Lib.hid hx
      obtain ⟨gx, px, hA, hgx, _⟩ := (HUS.out w3 (Below.refl _ _)).1.cell hx
      subst hA
      have a0 : (0 : Int) ≤ (i : Int) := by omega
      have a1 : (i : Int) < (na.length : Int) := by omega
      clear hx hgx
      go_wp2_with fail
      revert HB
      generalize wr = w5
      intro HB
      go_loopg [11] nb.length (fun gk iv wr => ∃ k : Nat, k + gk = nb.length ∧ iv = .int .i64 (k : Int) ∧ Hid (Below w3.heap.size w3 wr))
      case atStart => exact ⟨0, by omega, rfl, Lib.hid HB.out⟩
      case round =>
        obtain ⟨k, hk, rfl, HBk⟩ := hrel
        obtain ⟨gx', px', hA', hgx, x0⟩ := (HUS.out wr HBk.out).1.cell HX.out
        injection hA' with hA'
        injection hA' with e1 e2
        subst e1 e2
        by_cases hlk : k < nb.length
        · obtain ⟨gk2, hgk2⟩ : ∃ x, gk = x + 1 := ⟨gk - 1, by omega⟩
          obtain ⟨y, hy⟩ : ∃ y, nb[k]? = some y := ⟨_, List.getElem?_eq_getElem hlk⟩
          obtain ⟨gz, pz, hB, hgz, y0⟩ := (HUS.out wr HBk.out).2.cell hy
          subst hB
          have b0 : (0 : Int) ≤ (k : Int) := by omega
          have b1 : (k : Int) < (nb.length : Int) := by omega
          have hne : ((x : Int) == (y : Int)) = false := by
            rw [beq_eq_false_iff_ne]
            intro e
            have e' : x = y := by omega
            exact HNE.out x (List.mem_of_getElem? HX.out) (e' ▸ List.mem_of_getElem? hy)
          clear hy
          go_wp2_with fail
          go_quiet (fail)
          go_wp2_with fail
          go_roundg gk2
          case measure => omega
          case rel => exact ⟨k + 1, by omega, by go_num, Lib.hid (below_drewN HBk.out _)⟩
        · have hkn : k = nb.length := by omega
          subst hkn
          by_cases hi0 : i = 0
          · subst hi0
            go_wp2_with fail
            go_quiet (fail)
            go_wp2_with fail
            go_roundg gk1
            case measure => omega
            case rel => exact ⟨1, by omega, by go_num, Lib.hid (below_drewN HBk.out _)⟩
          · obtain ⟨j, rfl⟩ : ∃ j, i = j + 1 := ⟨i - 1, by omega⟩
            obtain ⟨p, hp⟩ : ∃ p, na[j]? = some p := ⟨_, List.getElem?_eq_getElem (by omega)⟩
            obtain ⟨gx', px', hA', hgp, p0⟩ := (HUS.out wr HBk.out).1.cell hp
            injection hA' with hA'
            injection hA' with e1 e2
            subst e1 e2
            have hpx : p < x := by
              obtain ⟨i1, q1⟩ := List.getElem?_eq_some_iff.1 hp
              obtain ⟨i2, q2⟩ := List.getElem?_eq_some_iff.1 HX.out
              have := List.pairwise_iff_getElem.1 HUA.out j (j + 1) i1 i2 (Nat.lt_succ_self _)
              rw [q1, q2] at this
              exact this
            have hge : decide ((x : Int) ≤ (p : Int)) = false := decide_eq_false (by omega)
            have hge2 : decide (x ≤ p) = false := decide_eq_false (by omega)
            have hge3 : ¬ x ≤ p := by omega
            have hpj : (((j + 1 : Nat) : Int) - 1) = (j : Int) := by omega
            have hpos : (0 : Int) < ((j + 1 : Nat) : Int) := by omega
            have a2 : (0 : Int) ≤ (j : Int) := by omega
            have a3 : (j : Int) < (na.length : Int) := by omega
            clear hp hpx
            go_wp2_with fail
            go_quiet (fail)
            go_wp2_with fail
            go_roundg gk1
            case measure => omega
            case rel => exact ⟨j + 1 + 1, by omega, by go_num, Lib.hid (below_drewN HBk.out _)⟩
    · have hin : i = na.length := by omega
      subst hin
      have HWl := Lib.hid ((HW3.out.later (stA_thing _ _) (stB_thing _ _ _) HB.out).say fun _ _ => trivial)
      clear HB hi hlt HUS HW3
      have hLs := hK.list HWl.out.a HM2.out (show Nms (callS m) from HNMS.out) (by omega) (Keep.of_old HLU.out HWl.out.below HWl.out.fge)
      have herr : (liR (callS m)).1.1 ≠ 0 → (liR (callS m)).1.2 = ([], []) := liR_err
      have hgood : (liR (callS m)).1.1 = 0 → RosG (liR (callS m)).1.2.1 (liR (callS m)).1.2.2 ∧ (liR (callS m)).1.2.1.length = na.length ∧ (liR (callS m)).1.2.2.length = nb.length := fun h => by
        have := liR_good h (by rw [HNC.out]; exact HUA.out) (by rw [HNC.out]; exact HUB.out)
        rw [HNC.out] at this
        exact this
      generalize liR (callS m) = lr at hLs herr hgood
      obtain ⟨⟨lc, ll, lk⟩, m2⟩ := lr
      simp only at hLs herr hgood
      have HER := Lib.hid herr
      have HGO := Lib.hid hgood
      clear herr hgood
      go_wp2_with fail
      refine hLs.mono ?_
      rintro e w10 ⟨ra, rb, F10, rfl, hP10, hG10, hX10⟩
      have hb10 : Below w1.heap.size w1 w10 := below_apt HWl.out.below hG10.apt HWl.out.fge HWl.out.below.size
      obtain ⟨hma, hmb⟩ := hX10.here
      obtain ⟨Ra, cra, rfl, _, _⟩ := hma.form
      obtain ⟨Rb, crb, rfl, _, _⟩ := hmb.form
      have hb11 : Below w10.heap.size w10 (w10.alloc (.cells #[.slice Ra ll.length cra, .slice Rb lk.length crb] 41)) := (Below.refl _ _).alloc (Nat.le_refl _) _
      have HB11 := Lib.hid (hb10.trans (hb11.mono hb10.size))
      have HR11 : Hid (Blk (w10.alloc (.cells #[.slice Ra ll.length cra, .slice Rb lk.length crb] 41)) w10.heap.size 41 #[.slice Ra ll.length cra, .slice Rb lk.length crb]) := Lib.hid (Blk.new _ _ _)
      have HMA := Lib.hid (hma.below hb11)
      have HMB := Lib.hid (hmb.below hb11)
      clear hLs hP10 hG10 hX10 HWl hb10 hb11 hma hmb
      by_cases hlc : lc = 0
      rotate_left
      · have hbe := errV_code hlc
        obtain ⟨e1, e2⟩ := Prod.mk.inj (HER.out hlc)
        subst e1 e2
        have r0 := HR11.out.cell 0
        have r1 := HR11.out.cell 1
        simp at r0 r1
        rw [hbe]
        clear hbe hlc
        go_wp2_with fail
        go_ret
        exact ⟨rfl, HFIN.out _ HB11.out⟩
      subst hlc
      obtain ⟨hrg, hl1, hl2⟩ := HGO.out rfl
      have HRG := Lib.hid hrg
      have HL1 := Lib.hid (And.intro hl1 hl2)
      rw [errV_zero]
      clear hrg hl1 hl2 HGO HER
      have r0 := HR11.out.cell 0
      have r1 := HR11.out.cell 1
      simp at r0 r1
      have hput := hK.put (HLU.out _ HB11.out) HMA.out HMB.out HRG.out.fewl HRG.out.fewk
      rw [goodB_yes HRG.out, if_pos rfl, if_pos rfl, errV_zero] at hput
      go_wp2_with fail
      revert HB11 HR11 HMA HMB r0 r1 hput
      generalize w10.alloc (.cells #[.slice Ra ll.length cra, .slice Rb lk.length crb] 41) = w11
      generalize w10.heap.size = g10
      intro HB11 HR11 HMA HMB r0 r1 hput
      refine hput.mono ?_
      rintro e w12 ⟨y, rfl, hy, hb12⟩
      have HB12 := Lib.hid (HB11.out.trans (hb12.mono HB11.out.size))
      have HR12 := Lib.hid (HR11.out.below hb12 HR11.out.lt)
      have HMA2 := Lib.hid (HMA.out.below hb12)
      have HMB2 := Lib.hid (HMB.out.below hb12)
      have hget := hK.get (HLU.out _ HB12.out) hy (by
        rw [sealedOf_length, rosRaw_length]
        have := HRG.out.fewl
        have := HRG.out.fewk
        omega)
      rw [rosX_put HRG.out HMA.out.ok HMB.out.ok] at hget
      simp only [errV_zero] at hget
      clear hput hb12 hy HB11 HR11 HMA HMB r0 r1
      go_wp2_with fail
      refine hget.mono ?_
      rintro e w13 ⟨ga, gb, rfl, hga, hgb, hb13⟩
      obtain ⟨Ga, cga, rfl, _, _⟩ := hga.form
      obtain ⟨Gb, cgb, rfl, _, _⟩ := hgb.form
      have hb14 : Below w13.heap.size w13 (w13.alloc (.cells #[.slice Ga ll.length cga, .slice Gb lk.length cgb] 41)) := (Below.refl _ _).alloc (Nat.le_refl _) _
      have hbb := hb13.trans (hb14.mono hb13.size)
      have HB14 := Lib.hid (HB12.out.trans (hbb.mono HB12.out.size))
      have HR12' := Lib.hid (HR12.out.below hbb HR12.out.lt)
      have HR14 : Hid (Blk (w13.alloc (.cells #[.slice Ga ll.length cga, .slice Gb lk.length cgb] 41)) w13.heap.size 41 #[.slice Ga ll.length cga, .slice Gb lk.length cgb]) := Lib.hid (Blk.new _ _ _)
      have HMA3 := Lib.hid (HMA2.out.below hbb)
      have HMB3 := Lib.hid (HMB2.out.below hbb)
      have HGA := Lib.hid (hga.below hb14)
      have HGB := Lib.hid (hgb.below hb14)
      clear hget hga hgb hb13 hb14 hbb HB12 HR12 HMA2 HMB2
      go_wp2_with fail
      revert HB14 HR12' HR14 HMA3 HMB3 HGA HGB
      generalize w13.alloc (.cells #[.slice Ga ll.length cga, .slice Gb lk.length cgb] 41) = w14
      generalize w13.heap.size = g13
      intro HB14 HR12' HR14 HMA3 HMB3 HGA HGB
      have hcl : ∀ u, Below w14.heap.size w14 u → u.cell? ⟨g10, 0, none⟩ = some (.slice Ra ll.length cra) ∧ u.cell? ⟨g10, 1, none⟩ = some (.slice Rb lk.length crb) ∧ u.cell? ⟨g13, 0, none⟩ = some (.slice Ga ll.length cga) ∧ u.cell? ⟨g13, 1, none⟩ = some (.slice Gb lk.length cgb) := fun u hu =>
        ⟨((HR12'.out.below hu HR12'.out.lt).cell 0).trans rfl, ((HR12'.out.below hu HR12'.out.lt).cell 1).trans rfl, ((HR14.out.below hu HR14.out.lt).cell 0).trans rfl, ((HR14.out.below hu HR14.out.lt).cell 1).trans rfl⟩
      have hq1 : ((ll.length : Int) == (na.length : Int)) = true := by rw [HL1.out.1]; simp
      have hq2 : ((lk.length : Int) == (nb.length : Int)) = true := by rw [HL1.out.2]; simp
      have hb15 : Below w14.heap.size w14 w14.drew := (Below.refl _ _).drew
      refine wp_region_mix [(0, false), (1, false), (2, false), (3, false), (4, false), (5, false), (6, false), (7, false), (8, false), (9, false), (10, false), (12, false), (11, true), (13, true), (14, true), (15, false), (16, false), (17, false), (18, false), (19, false), (20, false), (21, false), (22, false), (23, false), (24, false), (25, false), (26, false), (27, false), (28, false), (29, false), (30, false), (31, false), (32, false)] (fun u => Below w14.heap.size w14 u) (by kernel_rfl) (by kernel_rfl) (by kernel_rfl) rfl hb15 ?_
      iterate 12
        (refine mix_read (o := ⟨_, _, _, _, _, _⟩) (v := ?_) rfl (by rfl) (fun w' hS => ?_) ?_
         rotate_left
         obtain ⟨j0, j1, j2, j3⟩ := hcl w' hS
         go_simp
         with_reducible rfl
         try simp only [Act.put, List.setIfInBounds_toArray, List.set_cons_zero, List.set_cons_succ])
      refine mix_step (o := ⟨_, _, _, _, _, _⟩) rfl (fun K hK2 => ?_)
      go_simp
      refine (as_any _ _ ll lk _ (HGA.out.below hb15) (HGB.out.below hb15)).mono ?_
      rintro e w16 ⟨rfl, hb16⟩
      have hb16' := hb15.trans (hb16.mono hb15.size)
      refine hK2.out _ _ hb16' ?_
      clear hK2 K
      try simp only [Act.put, List.setIfInBounds_toArray, List.set_cons_zero, List.set_cons_succ]
      refine mix_step (o := ⟨_, _, _, _, _, _⟩) rfl (fun K hK2 => ?_)
      go_simp
      refine (as_any _ _ ll lk _ (HMA3.out.below hb16') (HMB3.out.below hb16')).mono ?_
      rintro e w17 ⟨rfl, hb17⟩
      have hb17' := hb16'.trans (hb17.mono hb16'.size)
      refine hK2.out _ _ hb17' ?_
      clear hK2 K
      try simp only [Act.put, List.setIfInBounds_toArray, List.set_cons_zero, List.set_cons_succ]
      refine mix_step (o := ⟨_, _, _, _, _, _⟩) rfl (fun K hK2 => ?_)
      go_simp
      refine (Same_same _ _ _ _ ll lk _ (HGA.out.below hb17') (HMA3.out.below hb17') (HGB.out.below hb17') (HMB3.out.below hb17')).mono ?_
      rintro e w18 ⟨rfl, hb18⟩
      have hb18' := hb17'.trans (hb18.mono hb17'.size)
      refine hK2.out _ _ hb18' ?_
      clear hK2 K
      try simp only [Act.put, List.setIfInBounds_toArray, List.set_cons_zero, List.set_cons_succ]
      iterate 18
        (refine mix_read (o := ⟨_, _, _, _, _, _⟩) (v := ?_) rfl (by rfl) (fun w' hS => ?_) ?_
         rotate_left
         obtain ⟨j0, j1, j2, j3⟩ := hcl w' hS
         go_simp
         with_reducible rfl
         try simp only [Act.put, List.setIfInBounds_toArray, List.set_cons_zero, List.set_cons_succ])
      refine mix_done ?_
      have HBE := Lib.hid (HFIN.out _ (HB14.out.trans (hb18'.mono HB14.out.size)))
      clear hcl hb15 hb16 hb16' hb17 hb17' hb18 hb18'
      go_wp2_with fail
      go_ret
      exact ⟨by simp, HBE.out⟩

end Go.Proofs.YtmlemclehfdneaaGreatDoor

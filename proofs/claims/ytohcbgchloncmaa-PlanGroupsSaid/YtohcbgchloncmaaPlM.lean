/-
  THE PROGRAM's Group (layer 19): what it tells. Conditions: what each says.
-/
import Derived.Test.YtohcbgchloncmaaPlG
import Derived.Test.YtohcbgchloncmaaPlD
namespace Go.Proofs.Ytohcbgchloncmaa
open Go.RowKit
set_option maxRecDepth 100000

theorem takeF_skip {l : List Me} {p : Me → Bool} {i m : Nat} {x : Me} (hx : l[i]? = some x) (h : p x = false) : ((l.take (i + 1)).filter p).take m = ((l.take i).filter p).take m := by
  rw [filter_next hx, h]
  simp

theorem takeF_full {l : List Me} {p : Me → Bool} {i m : Nat} {x : Me} (hx : l[i]? = some x) (h : ¬ (((l.take i).filter p).take m).length < m) : ((l.take (i + 1)).filter p).take m = ((l.take i).filter p).take m := by
  rw [filter_next hx]
  rw [List.length_take] at h
  rw [List.take_append_of_le_length (by omega)]

theorem takeF_next {l : List Me} {p : Me → Bool} {i m : Nat} {x : Me} (hx : l[i]? = some x) (hp : p x = true) (h : (((l.take i).filter p).take m).length < m) : ((l.take (i + 1)).filter p).take m = ((l.take i).filter p).take m ++ [x] := by
  rw [List.length_take] at h
  have hle : ((l.take i).filter p).length < m := by omega
  rw [filter_next hx, hp, if_pos rfl]
  generalize (l.take i).filter p = k at h hle ⊢
  rw [List.take_of_length_le (l := k ++ [x]) (by rw [List.length_append, List.length_singleton]; omega), List.take_of_length_le (l := k) (by omega)]

set_option maxHeartbeats 12800000 in
theorem pgroup_ok (v : Value) (l : List Me) (long most : Int) (w : World) (h : Mes w v l) (hlen : l.length ≤ 1000000) (hl1 : 1 ≤ long) (hl2 : long ≤ 1099511627776) (hm1 : 2 ≤ most) (hm2 : most ≤ 8) (hr : riseMB l = true) :
    Calls Try.prog 5 #[v, .int .i64 long, .int .i64 most] w fun e w' => ∃ a, e = .returned (.tuple #[a, .nilIface]) ∧ Mes w' a (grpR l long most.toNat) ∧ Below w.heap.size w w' := by
  obtain ⟨mo, hmo⟩ : ∃ z : Nat, z = most.toNat := ⟨_, rfl⟩
  have hmi : most = (mo : Int) := by omega
  rw [← hmo]
  subst hmi
  clear hmo
  have SL := Lib.hid h
  have HOK := Lib.hid h.ok
  have hrs := prise_any v l w h
  rw [hr] at hrs
  obtain ⟨A, c, rfl, hc1, hc2⟩ := h.form
  have f1 : decide (long < 1) = false := decide_eq_false (by omega)
  have f2 : decide ((1099511627776 : Int) < long) = false := decide_eq_false (by omega)
  have f3 : decide ((mo : Int) < 2) = false := decide_eq_false (by omega)
  have f4 : decide ((8 : Int) < (mo : Int)) = false := decide_eq_false (by omega)
  clear h hr
  go_enter Try.func5, Try.ntmps5
  go_wp2_with fail
  refine hrs.mono ?_
  rintro e w1 ⟨rfl, hb1⟩
  have HB1 := Lib.hid hb1
  clear hb1 hrs
  go_wp2_with fail
  refine (firstPlace_any _ l long w1 (SL.out.below HB1.out) hl1 hlen).mono ?_
  rintro e w2 ⟨a, b, o, rfl, hfp, hb2⟩
  have HB2 := Lib.hid (HB1.out.trans (hb2.mono HB1.out.size))
  have HP2 := Lib.hid (Blk.new w2 37 #[.int .i64 a, .int .i64 b])
  have hb3 : Below w2.heap.size w2 (w2.alloc (.cells #[.int .i64 a, .int .i64 b] 37)) := (Below.refl _ _).alloc (Nat.le_refl _) _
  have HB3 := Lib.hid (HB2.out.trans (hb3.mono HB2.out.size))
  clear hb2 hb3
  rcases hfp with ⟨hn, rfl⟩ | ⟨y, hn, rfl, hay, hby⟩
  · have HG : Hid (grpR l long mo = []) := Lib.hid (by rw [grpR, hn])
    clear hn
    go_wp2_with fail
    go_ret2
    rw [HG.out]
    exact ⟨_, rfl, Mes.nil _, HB3.out⟩
  have HG : Hid (grpR l long mo = (l.filter (mateB long y)).take mo) := Lib.hid (by rw [grpR, hn])
  have HAY := Lib.hid hay
  have HBY := Lib.hid hby
  clear hn hay hby
  go_wp2_with fail
  revert HP2 HB3
  generalize hg8 : w2.heap.size = g8
  generalize w2.alloc (.cells #[.int .i64 a, .int .i64 b] 37) = w3
  intro HP3 HB3
  clear HB2 hg8
  go_loopg [10, 43] l.length (fun gk av iv wr => ∃ (i : Nat), i + gk = l.length ∧ iv = .int .i64 (i : Int) ∧ Hid (OwnK 6 wr w3.heap.size 35 (fun _ => True) MeC av (((l.take i).filter (mateB long y)).take mo) ∧ Below w3.heap.size w3 wr))
  case atStart => exact ⟨0, by omega, rfl, Lib.hid ⟨by rw [List.take_zero, List.filter_nil, List.take_nil]; exact OwnK.nil _ _ _ _ _ _, Below.refl _ _⟩⟩
  case round =>
    obtain ⟨i, hi, rfl, HL⟩ := hrel
    obtain ⟨Aa, ca, rfl, _, _⟩ := HL.out.1.form
    obtain ⟨out, hout⟩ : ∃ z, z = ((l.take i).filter (mateB long y)).take mo := ⟨_, rfl⟩
    rw [← hout] at HL ⊢
    obtain ⟨lo, hlo⟩ : ∃ z, z = out.length := ⟨_, rfl⟩
    rw [← hlo] at HL ⊢
    have hlm : lo ≤ mo := by rw [hlo, hout, List.length_take]; omega
    have HOUT := Lib.hid hout
    have HLO := Lib.hid hlo
    clear hout hlo
    by_cases hlt : i < l.length
    rotate_left
    · have hil : i = l.length := by omega
      subst hil
      go_wp2_with fail
      go_ret2
      rw [HG.out]
      obtain ⟨xs, o1, o2⟩ := HL.out.1
      refine ⟨_, rfl, ⟨xs, o1.lv, ?_⟩, HB3.out.trans (HL.out.2.mono HB3.out.size)⟩
      have e : (l.filter (mateB long y)).take mo = out := by
        have h1 := HOUT.out
        rw [List.take_length] at h1
        exact h1.symm
      rw [e]
      exact o2.mono fun _ _ hk => hk.here
    obtain ⟨gk1, hgk1⟩ : ∃ x, gk = x + 1 := ⟨gk - 1, by omega⟩
    obtain ⟨x, hx⟩ : ∃ t, l[i]? = some t := ⟨_, List.getElem?_eq_getElem hlt⟩
    have HX := Lib.hid hx
    have HOX := Lib.hid (HOK.out x (List.mem_of_getElem? hx))
    have hS := SL.out.below (HB3.out.trans (HL.out.2.mono HB3.out.size))
    obtain ⟨g, z, rfl, hg, c0, c1, c2, c3, c4, c5, _⟩ := hS.cells HX.out
    obtain ⟨wx, hwx⟩ : ∃ z, z = winI long x := ⟨_, rfl⟩
    have HWX := Lib.hid hwx
    have i0 : (0 : Int) ≤ (i : Int) := by omega
    have i1 : (i : Int) < (l.length : Int) := by omega
    clear hwx hx hS hg
    have hb4 : Below wr.heap.size wr (wr.alloc (.cells #[.int .u64 x.id, .int .i64 x.lv, .int .i64 x.st, .int .i64 x.en, .int .i64 x.pg, .int .i64 x.tr] 35)) := (Below.refl _ _).alloc (Nat.le_refl _) _
    have HB4 := Lib.hid (HL.out.2.trans (hb4.mono HL.out.2.size))
    have HO4 := Lib.hid (HL.out.1.below hb4)
    have HM4 := Lib.hid (Blk.new wr 35 #[.int .u64 x.id, .int .i64 x.lv, .int .i64 x.st, .int .i64 x.en, .int .i64 x.pg, .int .i64 x.tr])
    have HP4 := Lib.hid ((HP3.out.below HL.out.2 HP3.out.lt).below hb4 (Nat.lt_of_lt_of_le HP3.out.lt HL.out.2.size))
    clear hb4
    go_wp2_with fail
    clear c0 c1 c2 c3 c4 c5
    revert HB4 HO4 HM4 HP4
    generalize hgm : wr.heap.size = gm
    generalize wr.alloc (.cells #[.int .u64 x.id, .int .i64 x.lv, .int .i64 x.st, .int .i64 x.en, .int .i64 x.pg, .int .i64 x.tr] 35) = w4
    intro HB4 HO4 HM4 HP4
    have HSC := Lib.hid fun (u : World) (hu : Below w4.heap.size w4 u) => (by
      have h1 := HM4.out.below hu HM4.out.lt
      have h2 := HP4.out.below hu HP4.out.lt
      have d0 := h1.cell 0
      have d1 := h1.cell 1
      have d2 := h1.cell 2
      have d3 := h1.cell 3
      have d4 := h1.cell 4
      have d5 := h1.cell 5
      have e0 := h2.cell 0
      have e1 := h2.cell 1
      simp at d0 d1 d2 d3 d4 d5 e0 e1
      exact ⟨d0, d1, d2, d3, d4, d5, e0, e1⟩ : u.cell? ⟨gm, 0, none⟩ = some (.int .u64 x.id) ∧ u.cell? ⟨gm, 1, none⟩ = some (.int .i64 x.lv) ∧ u.cell? ⟨gm, 2, none⟩ = some (.int .i64 x.st) ∧ u.cell? ⟨gm, 3, none⟩ = some (.int .i64 x.en) ∧ u.cell? ⟨gm, 4, none⟩ = some (.int .i64 x.pg) ∧ u.cell? ⟨gm, 5, none⟩ = some (.int .i64 x.tr) ∧ u.cell? ⟨g8, 0, none⟩ = some (.int .i64 a) ∧ u.cell? ⟨g8, 1, none⟩ = some (.int .i64 b))
    by_cases hst : lo < mo
    rotate_left
    · have e2 : decide ((lo : Int) < (mo : Int)) = false := decide_eq_false (by omega)
      have HE : Hid (((l.take (i + 1)).filter (mateB long y)).take mo = out) := Lib.hid (by rw [HOUT.out]; exact takeF_full HX.out (by rw [← HOUT.out, ← HLO.out]; exact hst))
      go_quiet (fail)
      go_wp2_with fail
      go_roundg gk1
      case measure => omega
      case rel => exact ⟨i + 1, by omega, by go_num, Lib.hid (by
        rw [HE.out]
        exact ⟨HO4.out.below (below_drewN (Below.refl _ _) _), below_drewN HB4.out _⟩)⟩
    have e2 : decide ((lo : Int) < (mo : Int)) = true := decide_eq_true (by omega)
    refine wp_region_mix [(0, false), (1, false), (2, false), (3, false), (4, false), (5, false), (6, false), (8, false), (7, true), (9, false), (10, false)] (fun u => Below w4.heap.size w4 u) (by kernel_rfl) (by kernel_rfl) (by kernel_rfl) rfl (Below.refl _ _).drew ?_
    repeat
      (refine mix_read (o := ⟨_, _, _, _, _, _⟩) (v := ?_) rfl (by rfl) (fun w' hU => ?_) ?_
       rotate_left
       obtain ⟨d0, d1, d2, d3, d4, d5, d6, d7⟩ := HSC.out _ hU
       go_simp
       with_reducible rfl
       try simp only [Act.put, List.setIfInBounds_toArray, List.set_cons_zero, List.set_cons_succ])
    refine mix_step (o := ⟨_, _, _, _, _, _⟩) rfl (fun K hK => ?_)
    go_simp
    refine (placeOf_any x long _ HOX.out hl1).mono ?_
    rintro e w5 ⟨rfl, hb5⟩
    rw [← HWX.out]
    replace hb5 : Below w4.heap.size w4 w5 := ⟨hb5.os, hb5.tape, hb5.output, hb5.size, hb5.block⟩
    have HB5 := Lib.hid (HB4.out.trans (hb5.mono HB4.out.size))
    have HO5 := Lib.hid (HO4.out.below hb5)
    have HM5 := Lib.hid (HM4.out.below hb5 HM4.out.lt)
    refine hK.out _ _ hb5 ?_
    clear hK K hb5
    try simp only [Act.put, List.setIfInBounds_toArray, List.set_cons_zero, List.set_cons_succ]
    obtain ⟨mb, hmb⟩ : ∃ z, z = mateB long y x := ⟨_, rfl⟩
    have HMB := Lib.hid hmb
    have heq : mb = (decide (x.lv = a) && decide (wx = b)) := by rw [hmb, mateB, ← HWX.out, HAY.out, HBY.out]
    have HEQ := Lib.hid heq
    clear hmb heq
    refine mix_read (o := ⟨_, _, _, _, _, _⟩) (v := .bool mb) rfl (by rfl) (fun w' hU => ?_) ?_
    · go_simp
      rw [HEQ.out]
      by_cases h1 : x.lv = a <;> by_cases h2 : wx = b <;> simp [h1, h2]
    try simp only [Act.put, List.setIfInBounds_toArray, List.set_cons_zero, List.set_cons_succ]
    refine mix_read (o := ⟨_, _, _, _, _, _⟩) (v := ?_) rfl (by rfl) (fun w' hU => ?_) ?_
    rotate_left
    go_simp
    with_reducible rfl
    try simp only [Act.put, List.setIfInBounds_toArray, List.set_cons_zero, List.set_cons_succ]
    refine mix_done ?_
    clear HEQ HSC
    cases mb with
    | false =>
      have HE : Hid (((l.take (i + 1)).filter (mateB long y)).take mo = out) := Lib.hid (by rw [HOUT.out]; exact takeF_skip HX.out HMB.out.symm)
      go_wp2_with fail
      go_roundg gk1
      case measure => omega
      case rel => exact ⟨i + 1, by omega, by go_num, Lib.hid (by
        rw [HE.out]
        exact ⟨HO5.out, HB5.out⟩)⟩
    | true =>
      have HE : Hid (((l.take (i + 1)).filter (mateB long y)).take mo = out ++ [x]) := Lib.hid (by rw [HOUT.out]; exact takeF_next HX.out HMB.out.symm (by rw [← HOUT.out, ← HLO.out]; exact hst))
      have c0 := HM5.out.cell 0
      have c1 := HM5.out.cell 1
      have c2 := HM5.out.cell 2
      have c3 := HM5.out.cell 3
      have c4 := HM5.out.cell 4
      have c5 := HM5.out.cell 5
      simp at c0 c1 c2 c3 c4 c5
      have hb6 : Below w5.heap.size w5 (w5.alloc (.cells #[.int .u64 x.id, .int .i64 x.lv, .int .i64 x.st, .int .i64 x.en, .int .i64 x.pg, .int .i64 x.tr] 35)) := (Below.refl _ _).alloc (Nat.le_refl _) _
      have HO6 := Lib.hid (HO5.out.below hb6)
      have HB6 : Hid (Below w3.heap.size w3 (w5.alloc (.cells #[.int .u64 x.id, .int .i64 x.lv, .int .i64 x.st, .int .i64 x.en, .int .i64 x.pg, .int .i64 x.tr] 35))) := Lib.hid (HB5.out.trans (hb6.mono HB5.out.size))
      have HLV := Lib.hid (Lv.lit1 (w := w5) [.int .u64 x.id, .int .i64 x.lv, .int .i64 x.st, .int .i64 x.en, .int .i64 x.pg, .int .i64 x.tr] 35)
      have HYK : Hid (Keep (fun q => True ∨ (Value.slice Aa lo ca).ownBlock = some q) (fun u => MeC u x [.int .u64 x.id, .int .i64 x.lv, .int .i64 x.st, .int .i64 x.en, .int .i64 x.pg, .int .i64 x.tr]) (w5.alloc (.cells #[.int .u64 x.id, .int .i64 x.lv, .int .i64 x.st, .int .i64 x.en, .int .i64 x.pg, .int .i64 x.tr] 35))) := Lib.hid fun u _ => ⟨HOX.out, rfl⟩
      have HLN6 : Hid (out.length ≤ 1000000000) := Lib.hid (by have := HLO.out; omega)
      have HSZ : Hid (w3.heap.size ≤ (w5.alloc (.cells #[.int .u64 x.id, .int .i64 x.lv, .int .i64 x.st, .int .i64 x.en, .int .i64 x.pg, .int .i64 x.tr] 35)).heap.size) := Lib.hid HB6.out.size
      clear hb6
      go_wp2_with (at_builtin; refine wpList_append_K metaT rfl _ _ rfl rfl HO6.out rfl HLV.out HYK.out (by simp [Value.oneCell']) HLN6.out (by decide) HSZ.out ?_)
      intro v7 w7 ho7 hg7 hv7
      obtain ⟨A7, c7, rfl, _, _⟩ := ho7.form
      rw [List.length_append, List.length_singleton, ← HLO.out] at ho7 hv7 ⊢
      have HO7 := Lib.hid ho7
      have HB7 : Hid (Below w3.heap.size w3 w7) := Lib.hid (HB6.out.grown hg7 HB6.out.size fun k hk => (HO6.out.lt k hk).1)
      clear ho7 hg7 hv7
      go_wp2_with fail
      go_roundg gk1
      case measure => omega
      case rel => exact ⟨i + 1, by omega, by go_num, Lib.hid (by
        rw [HE.out]
        exact ⟨HO7.out, HB7.out⟩)⟩

set_option maxHeartbeats 3200000 in
theorem pgroup_bad (v : Value) (l : List Me) (long most : Int) (w : World) (h : Mes w v l) (hbad : plBad l long most = true) :
    Calls Try.prog 5 #[v, .int .i64 long, .int .i64 most] w fun e w' => e = .returned (.tuple #[.slice none 0 0, code 1]) ∧ Below w.heap.size w w' := by
  have hrs := prise_any v l w h
  obtain ⟨A, c, rfl, hc1, hc2⟩ := h.form
  clear h
  unfold plBad at hbad
  have HB0 := Lib.hid (Below.refl w.heap.size w)
  by_cases b1 : long < 1
  · have f1 : decide (long < 1) = true := decide_eq_true b1
    clear hbad
    go_enter Try.func5, Try.ntmps5
    go_wp2_with fail
    go_ret2
    exact ⟨rfl, HB0.out⟩
  have f1 : decide (long < 1) = false := decide_eq_false b1
  by_cases b2 : (1099511627776 : Int) < long
  · have f2 : decide ((1099511627776 : Int) < long) = true := decide_eq_true b2
    clear hbad
    go_enter Try.func5, Try.ntmps5
    go_wp2_with fail
    go_ret2
    exact ⟨rfl, HB0.out⟩
  have f2 : decide ((1099511627776 : Int) < long) = false := decide_eq_false b2
  by_cases b3 : most < 2
  · have f3 : decide (most < 2) = true := decide_eq_true b3
    clear hbad
    go_enter Try.func5, Try.ntmps5
    go_wp2_with fail
    go_ret2
    exact ⟨rfl, HB0.out⟩
  have f3 : decide (most < 2) = false := decide_eq_false b3
  by_cases b4 : (8 : Int) < most
  · have f4 : decide ((8 : Int) < most) = true := decide_eq_true b4
    clear hbad
    go_enter Try.func5, Try.ntmps5
    go_wp2_with fail
    go_ret2
    exact ⟨rfl, HB0.out⟩
  have f4 : decide ((8 : Int) < most) = false := decide_eq_false b4
  have hr : riseMB l = false := by
    rw [f1, f2, f3, f4] at hbad
    simpa using hbad
  rw [hr] at hrs
  clear hbad
  go_enter Try.func5, Try.ntmps5
  go_wp2_with fail
  refine hrs.mono ?_
  rintro e w1 ⟨rfl, hb1⟩
  have HB1 := Lib.hid hb1
  clear hb1 hrs HB0
  go_wp2_with fail
  go_ret2
  exact ⟨rfl, HB1.out⟩

/-- WHAT THE PROGRAM's Group TELLS -/
theorem thePlan : PlanK := by
  intro w v l long most h hlen _ _ _ _
  cases hb : plBad l long most with
  | true =>
    rw [plG_bad hb]
    refine (pgroup_bad v l long most w h hb).mono ?_
    rintro e w' ⟨rfl, hw⟩
    exact ⟨_, rfl, Mes.nil _, hw⟩
  | false =>
    rw [plG_ok hb]
    unfold plBad at hb
    simp only [Bool.or_eq_false_iff, Bool.not_eq_false', decide_eq_false_iff_not] at hb
    obtain ⟨b1, b2, b3, b4, b5⟩ := hb
    refine (pgroup_ok v l long most w h (by omega) (by omega) (by omega) (by omega) (by omega) b5).mono ?_
    rintro e w' ⟨a, rfl, ha, hw⟩
    exact ⟨a, by rw [errV_zero], ha, hw⟩

end Go.Proofs.Ytohcbgchloncmaa

/-
  tankardlaw04.TraceUnion, walked: it returns true at every three lists of spans; nothing that was there has turned. No condition.
-/
import Derived.Test.YtalljllloffieaaLawTBack
namespace Go.Proofs.Ytalljllloffieaa
open Go.RowKit

theorem countP_one {α : Type} {p : α → Bool} : ∀ {m : List α} {t : α}, m.Nodup → t ∈ m → p t = true → (∀ u ∈ m, p u = true → u = t) → m.countP p = 1
  | [], t, _, ht, _, _ => by cases ht
  | a :: m, t, hn, ht, hp, hu => by
    rw [List.nodup_cons] at hn
    by_cases hpa : p a = true
    · have ha := hu a (List.mem_cons_self ..) hpa
      subst ha
      have h0 : m.countP p = 0 := by
        rw [List.countP_eq_zero]
        intro u hum hpu
        have := hu u (List.mem_cons_of_mem _ hum) hpu
        subst this
        exact hn.1 hum
      rw [List.countP_cons_of_pos hpa, h0]
    · rcases List.mem_cons.1 ht with rfl | ht'
      · exact absurd hp hpa
      · rw [List.countP_cons_of_neg hpa]
        exact countP_one hn.2 ht' hp fun u hum => hu u (List.mem_cons_of_mem _ hum)

theorem Gat.once {a b g m : List Sn} (hg : Gat a g) (hm : Gat (a ++ b) m) {s : Sn} (hs : s ∈ g) : m.countP (fun t => keyB t s) = 1 := by
  have hsa := ((hg.mem s).1 hs).1
  obtain ⟨t, ht, hk, _⟩ := Cnt.least (l := a ++ b) (List.mem_append_left b hsa)
  exact countP_one hm.nodup ((hm.mem t).2 ht) hk fun u hu hku => ((hm.mem u).1 hu).eq ht (key_trans hku (key_symm hk))
theorem Gat.none_less {a b g m : List Sn} (hg : Gat a g) (hm : Gat (a ++ b) m) {s t : Sn} (hs : s ∈ g) (ht : t ∈ m) (hk : keyB t s = true) : lessB s t = false :=
  ((hm.mem t).1 ht).2 s (List.mem_append_left b ((hg.mem s).1 hs).1) (key_symm hk)

set_option maxHeartbeats 6400000 in
set_option maxRecDepth 100000 in
theorem traceUnion_any (va vb vc : Value) (a b c : List Sn) (w : World) (ha : Ss w va a) (hb : Ss w vb b) (hc : Ss w vc c) :
    Calls Try.prog 5 #[va, vb, vc] w fun e w' => e = .returned (.bool true) ∧ Below w.heap.size w w' := by
  have HA := Lib.hid ha
  have HB := Lib.hid hb
  have HC := Lib.hid hc
  clear ha hb hc
  go_enter Try.func5, Try.ntmps5
  go_wp2_with fail
  refine (up4_any _).mono ?_
  rintro e w1 ⟨rfl, hb1⟩
  go_wp2_with fail
  refine (Few_any va a 60 w1 (HA.out.below hb1)).mono ?_
  rintro e w2 ⟨rfl, rfl⟩
  go_wp2_with fail
  refine (Few_any vb b 60 w1 (HB.out.below hb1)).mono ?_
  rintro e w2 ⟨rfl, rfl⟩
  go_wp2_with fail
  refine (Few_any vc c 60 w1 (HC.out.below hb1)).mono ?_
  rintro e w2 ⟨rfl, rfl⟩
  cases hfa : fewB a 60 with
  | false =>
    clear hfa
    go_wp2_with fail
    go_ret
    exact ⟨rfl, hb1⟩
  | true =>
  cases hfb : fewB b 60 with
  | false =>
    clear hfa hfb
    go_wp2_with fail
    go_ret
    exact ⟨rfl, hb1⟩
  | true =>
  cases hfc : fewB c 60 with
  | false =>
    clear hfa hfb hfc
    go_wp2_with fail
    go_ret
    exact ⟨rfl, hb1⟩
  | true =>
    obtain ⟨hla, hda⟩ := few_len (n := 60) hfa
    obtain ⟨hlb, hdb⟩ := few_len (n := 60) hfb
    obtain ⟨hlc, hdc⟩ := few_len (n := 60) hfc
    have DA : Hid (∀ s ∈ a, s.data.length ≤ 1000000) := Lib.hid fun s hs => by have := hda s hs; omega
    have DB : Hid (∀ s ∈ b, s.data.length ≤ 1000000) := Lib.hid fun s hs => by have := hdb s hs; omega
    have DC : Hid (∀ s ∈ c, s.data.length ≤ 1000000) := Lib.hid fun s hs => by have := hdc s hs; omega
    clear hfa hfb hfc hda hdb hdc
    go_wp2_with fail
    refine (gather_any va a _ (HA.out.below hb1) (by omega) DA.out).mono ?_
    rintro e w3 ⟨vg, g, rfl, hog, hG, hb3⟩
    have hB3 := hb1.trans (hb3.mono hb1.size)
    have HG := Lib.hid hG
    have hgl := hG.len
    have OG := Lib.hid hog.ss
    clear hog hb1 hb3 hG
    go_wp2_with fail
    refine (merge_any va vb a b _ (HA.out.below hB3) (HB.out.below hB3) (by omega) (by omega) DA.out DB.out).mono ?_
    rintro e w4 ⟨vm, m, rfl, hom, hM, hb4⟩
    have hB4 := hB3.trans (hb4.mono hB3.size)
    have HM := Lib.hid hM
    have hml := hM.len
    rw [List.length_append] at hml
    have OG4 := Lib.hid (OG.out.below hb4)
    have OM := Lib.hid hom.ss
    clear hom hB3 hb4 hM OG
    obtain ⟨Ag, cg, rfl, hcg1, hcg2⟩ := OG4.out.form
    obtain ⟨Am, cm, rfl, hcm1, hcm2⟩ := OM.out.form
    go_wp2_with fail
    go_loopw [13, 14, 15] (fun iv _ _ wr => ∃ i : Nat, i ≤ g.length ∧ iv = .int .i64 (i : Int) ∧ Below w4.heap.size w4 wr) (fun iv _ _ _ => g.length - (intOf iv).toNat)
    case atStart => exact ⟨0, Nat.zero_le _, rfl, Below.refl _ _⟩
    case round =>
      obtain ⟨i, hi, rfl, hB⟩ := hrel
      by_cases hlt : i < g.length
      · obtain ⟨s, his⟩ : ∃ s, g[i]? = some s := ⟨_, List.getElem?_eq_getElem hlt⟩
        have HIS := Lib.hid his
        go_wp2_with fail
        go_loopw [14, 15] (fun mv kv wr => ∃ k met : Nat, k ≤ m.length ∧ met ≤ k ∧ kv = .int .i64 (k : Int) ∧ mv = .int .i64 (met : Int) ∧ Below w4.heap.size w4 wr ∧ Hid (met = (m.take k).countP fun t => keyB t s)) (fun _ kv _ => m.length - (intOf kv).toNat)
        case atStart => exact ⟨0, 0, Nat.zero_le _, Nat.le_refl _, rfl, rfl, hB, Lib.hid (by simp)⟩
        case round =>
          obtain ⟨k, met, hk, hmk, rfl, rfl, hB5, HMET⟩ := hrel
          by_cases hkl : k < m.length
          · obtain ⟨t, hkt⟩ : ∃ t, m[k]? = some t := ⟨_, List.getElem?_eq_getElem hkl⟩
            obtain ⟨q, o, d, rfl, hq, c0, c1, c2, c3, c4, hdd, hok⟩ := (OG4.out.below (w' := w4) (Below.refl _ _)).cells his
            obtain ⟨q', o', d', rfl, hq', x0, x1, x2, x3, x4, hdd', hok'⟩ := OM.out.cells hkt
            replace c0 := (hB5.cell (p := ⟨q, o + i * 5, none⟩) hq).trans c0
            replace c1 := (hB5.cell (p := ⟨q, o + i * 5 + 1, none⟩) hq).trans c1
            replace c2 := (hB5.cell (p := ⟨q, o + i * 5 + 2, none⟩) hq).trans c2
            replace c3 := (hB5.cell (p := ⟨q, o + i * 5 + 3, none⟩) hq).trans c3
            replace c4 := (hB5.cell (p := ⟨q, o + i * 5 + 4, none⟩) hq).trans c4
            replace x0 := (hB5.cell (p := ⟨q', o' + k * 5, none⟩) hq').trans x0
            replace x1 := (hB5.cell (p := ⟨q', o' + k * 5 + 1, none⟩) hq').trans x1
            replace x2 := (hB5.cell (p := ⟨q', o' + k * 5 + 2, none⟩) hq').trans x2
            replace x3 := (hB5.cell (p := ⟨q', o' + k * 5 + 3, none⟩) hq').trans x3
            replace x4 := (hB5.cell (p := ⟨q', o' + k * 5 + 4, none⟩) hq').trans x4
            have hb0 : (0 : Int) ≤ (k : Int) := by omega
            have hb1 : (k : Int) < (m.length : Int) := by omega
            have hb2 : (0 : Int) ≤ (i : Int) := by omega
            have hb3 : (i : Int) < (g.length : Int) := by omega
            have HT := Lib.hid (take_snoc_at hkt)
            have HKT := Lib.hid hkt
            have HDD := Lib.hid (hdd.below hB5)
            have HDD' := Lib.hid (hdd'.below hB5)
            have HOK := Lib.hid hok
            have HOK' := Lib.hid hok'
            clear hdd hdd' hkt hok hok'
            by_cases hk1 : t.tr = s.tr
            · have k1 : (t.tr == s.tr) = true := by simpa using hk1
              by_cases hk2 : t.id = s.id
              · have k2 : (t.id == s.id) = true := by simpa using hk2
                have HKEY : Hid (keyB t s = true) := Lib.hid (key_iff.2 ⟨hk1, hk2⟩)
                have HLS := Lib.hid (HG.out.none_less HM.out (List.mem_of_getElem? HIS.out) (List.mem_of_getElem? HKT.out) HKEY.out)
                clear hk1 hk2
                go_wp2_with fail
                go_quiet (fail)
                go_wp2_with fail
                have hB6 := below_drewN hB5 nq
                have V1 : SV (wr.drewN nq).drew (.agg #[.int .u64 s.tr, .int .u64 s.id, .int .i64 s.st, .int .i64 s.en, d]) s := ⟨HOK.out, d, rfl, HDD.out⟩
                have V2 : SV (wr.drewN nq).drew (.agg #[.int .u64 t.tr, .int .u64 t.id, .int .i64 t.st, .int .i64 t.en, d']) t := ⟨HOK'.out, d', rfl, HDD'.out⟩
                have hqr := Nat.lt_of_lt_of_le hq hB5.size
                have hqr' := Nat.lt_of_lt_of_le hq' hB5.size
                have r0 : ∀ u, Below wr.heap.size (wr.drewN nq) u → u.cell? ⟨q, o + i * 5, none⟩ = some (.int .u64 s.tr) := fun u h => (h.cell hqr).trans c0
                have r1 : ∀ u, Below wr.heap.size (wr.drewN nq) u → u.cell? ⟨q, o + i * 5 + 1, none⟩ = some (.int .u64 s.id) := fun u h => (h.cell hqr).trans c1
                have r2 : ∀ u, Below wr.heap.size (wr.drewN nq) u → u.cell? ⟨q, o + i * 5 + 2, none⟩ = some (.int .i64 s.st) := fun u h => (h.cell hqr).trans c2
                have r3 : ∀ u, Below wr.heap.size (wr.drewN nq) u → u.cell? ⟨q, o + i * 5 + 3, none⟩ = some (.int .i64 s.en) := fun u h => (h.cell hqr).trans c3
                have r4 : ∀ u, Below wr.heap.size (wr.drewN nq) u → u.cell? ⟨q, o + i * 5 + 4, none⟩ = some d := fun u h => (h.cell hqr).trans c4
                have t0 : ∀ u, Below wr.heap.size (wr.drewN nq) u → u.cell? ⟨q', o' + k * 5, none⟩ = some (.int .u64 t.tr) := fun u h => (h.cell hqr').trans x0
                have t1 : ∀ u, Below wr.heap.size (wr.drewN nq) u → u.cell? ⟨q', o' + k * 5 + 1, none⟩ = some (.int .u64 t.id) := fun u h => (h.cell hqr').trans x1
                have t2 : ∀ u, Below wr.heap.size (wr.drewN nq) u → u.cell? ⟨q', o' + k * 5 + 2, none⟩ = some (.int .i64 t.st) := fun u h => (h.cell hqr').trans x2
                have t3 : ∀ u, Below wr.heap.size (wr.drewN nq) u → u.cell? ⟨q', o' + k * 5 + 3, none⟩ = some (.int .i64 t.en) := fun u h => (h.cell hqr').trans x3
                have t4 : ∀ u, Below wr.heap.size (wr.drewN nq) u → u.cell? ⟨q', o' + k * 5 + 4, none⟩ = some d' := fun u h => (h.cell hqr').trans x4
                clear c0 c1 c2 c3 c4 x0 x1 x2 x3 x4
                refine wp_region_mix [(0, false), (1, false), (2, false), (3, false), (4, false), (5, false), (6, false), (7, false), (8, true)] (fun u => Below wr.heap.size (wr.drewN nq) u) (by kernel_rfl) (by kernel_rfl) (by kernel_rfl) rfl (Below.refl _ _).drew ?_
                have hS0 : Below wr.heap.size (wr.drewN nq) (wr.drewN nq).drew := (Below.refl _ _).drew
                repeat
                  (refine mix_read (o := ⟨_, _, _, _, _, _⟩) (v := ?_) rfl (by rfl) (fun w' hS => ?_) ?_
                   rotate_left
                   go_simp
                   with_reducible rfl
                   try simp only [Act.put, List.setIfInBounds_toArray, List.set_cons_zero, List.set_cons_succ])
                clear r0 r1 r2 r3 r4 t0 t1 t2 t3 t4
                refine mix_step (o := ⟨_, _, _, _, _, _⟩) rfl (fun K hK => ?_)
                go_simp
                refine (Less_any _ _ s t _ V1 V2).mono ?_
                rintro e u1 ⟨rfl, hu1⟩
                rw [HLS.out]
                have hU : Below wr.heap.size (wr.drewN nq) u1 := ⟨hu1.os, hu1.tape, hu1.output, hu1.size, hu1.block⟩
                refine hK.out _ _ hU ?_
                clear hK K V1 V2
                refine mix_done ?_
                have hB7 : Below w4.heap.size w4 u1 := hB6.trans (hU.mono hB5.size)
                go_wp2_with fail
                refine ⟨⟨k + 1, met + 1, by omega, by omega, by go_num, by go_num, hB7, Lib.hid ?_⟩, by simp [intOf]; omega⟩
                rw [HT.out, List.countP_append, ← HMET.out]
                simp [HKEY.out]
              · have k2 : (t.id == s.id) = false := by simpa using hk2
                have HKEY : Hid (keyB t s = false) := Lib.hid (by simp [keyB, hk2])
                clear hk1 hk2
                go_wp2_with fail
                go_quiet (fail)
                go_wp2_with fail
                refine ⟨⟨k + 1, met, by omega, by omega, by go_num, rfl, below_drewN hB5 _, Lib.hid ?_⟩, by simp [intOf]; omega⟩
                rw [HT.out, List.countP_append, ← HMET.out]
                simp [HKEY.out]
            · have k1 : (t.tr == s.tr) = false := by simpa using hk1
              have HKEY : Hid (keyB t s = false) := Lib.hid (by simp [keyB, hk1])
              clear hk1
              go_wp2_with fail
              go_quiet (fail)
              go_wp2_with fail
              refine ⟨⟨k + 1, met, by omega, by omega, by go_num, rfl, below_drewN hB5 _, Lib.hid ?_⟩, by simp [intOf]; omega⟩
              rw [HT.out, List.countP_append, ← HMET.out]
              simp [HKEY.out]
          · have hm1 : met = 1 := by
              rw [HMET.out, List.take_of_length_le (by omega)]
              exact HG.out.once HM.out (List.mem_of_getElem? HIS.out)
            subst hm1
            go_wp2_with fail
            exact ⟨⟨i + 1, by omega, by go_num, hB5⟩, by simp [intOf]; omega⟩
      · clear hcg1 hcg2 hcm1 hcm2
        have hW := hB4.trans (hB.mono hB4.size)
        have OG5 := Lib.hid (OG4.out.below hB)
        have OM5 := Lib.hid (OM.out.below hB)
        have DG : Hid (∀ s ∈ g, s.data.length ≤ 1000000) := Lib.hid fun s hs => DA.out s (HG.out.sub s hs)
        have DM : Hid (∀ s ∈ m, s.data.length ≤ 1000000) := Lib.hid fun s hs => by
          rcases List.mem_append.1 (HM.out.sub s hs) with h | h
          · exact DA.out s h
          · exact DB.out s h
        clear hB hB4 OG4 OM
        go_wp2_with fail
        refine (merge_any _ vc m c _ OM5.out (HC.out.below hW) (by omega) (by omega) DM.out DC.out).mono ?_
        rintro e y1 ⟨p1, r1, rfl, o1, G1, b1⟩
        have W1 := hW.trans (b1.mono hW.size)
        have O1 := Lib.hid o1.ss
        have OG6 := Lib.hid (OG5.out.below b1)
        have OM6 := Lib.hid (OM5.out.below b1)
        have X1 := Lib.hid G1
        clear o1 G1 b1 hW
        go_wp2_with fail
        refine (merge_any vb vc b c _ (HB.out.below W1) (HC.out.below W1) (by omega) (by omega) DB.out DC.out).mono ?_
        rintro e y2 ⟨p2, r2, rfl, o2, G2, b2⟩
        have W2 := W1.trans (b2.mono W1.size)
        have O12 := Lib.hid (O1.out.below b2)
        have OG7 := Lib.hid (OG6.out.below b2)
        have OM7 := Lib.hid (OM6.out.below b2)
        have O2 := Lib.hid o2.ss
        have X2 := Lib.hid G2
        have l2 := G2.len
        rw [List.length_append] at l2
        have D2 : Hid (∀ s ∈ r2, s.data.length ≤ 1000000) := Lib.hid fun s hs => by
          rcases List.mem_append.1 (X2.out.sub s hs) with h | h
          · exact DB.out s h
          · exact DC.out s h
        clear o2 G2 b2 W1
        go_wp2_with fail
        refine (merge_any va p2 a r2 _ (HA.out.below W2) O2.out (by omega) (by omega) DA.out D2.out).mono ?_
        rintro e y3 ⟨p3, r3, rfl, o3, G3, b3⟩
        have W3 := W2.trans (b3.mono W2.size)
        have O13 := Lib.hid (O12.out.below b3)
        have OG8 := Lib.hid (OG7.out.below b3)
        have OM8 := Lib.hid (OM7.out.below b3)
        have O3 := Lib.hid o3.ss
        obtain rfl := HM.out.assoc X1.out X2.out G3
        clear o3 G3 b3 W2
        go_wp2_with fail
        refine (Spans_any p1 p3 r1 r1 _ O13.out O3.out).mono ?_
        rintro e y4 ⟨rfl, b4⟩
        rw [eqSp_refl]
        have W4 := W3.trans (b4.mono W3.size)
        have OG9 := Lib.hid (OG8.out.below b4)
        have OM9 := Lib.hid (OM8.out.below b4)
        clear b4 W3
        go_wp2_with fail
        refine (merge_any _ _ g g _ OG9.out OG9.out (by omega) (by omega) DG.out DG.out).mono ?_
        rintro e y5 ⟨p5, r5, rfl, o5, G5, b5⟩
        have W5 := W4.trans (b5.mono W4.size)
        have OG10 := Lib.hid (OG9.out.below b5)
        have OM10 := Lib.hid (OM9.out.below b5)
        have O5 := Lib.hid o5.ss
        obtain rfl := HG.out.self G5
        clear o5 G5 b5 W4
        go_wp2_with fail
        refine (Spans_any p5 _ _ _ _ O5.out OG10.out).mono ?_
        rintro e y6 ⟨rfl, b6⟩
        rw [eqSp_refl]
        have W6 := W5.trans (b6.mono W5.size)
        have OM11 := Lib.hid (OM10.out.below b6)
        clear b6 W5
        go_wp2_with fail
        refine (merge_any vb va b a _ (HB.out.below W6) (HA.out.below W6) (by omega) (by omega) DB.out DA.out).mono ?_
        rintro e y7 ⟨p7, r7, rfl, o7, G7, b7⟩
        have W7 := W6.trans (b7.mono W6.size)
        have OM12 := Lib.hid (OM11.out.below b7)
        have O7 := Lib.hid o7.ss
        have e7 := HM.out.comm G7
        clear o7 G7 b7 W6
        go_wp2_with fail
        refine (Spans_any p7 _ _ _ _ O7.out OM12.out).mono ?_
        rintro e y8 ⟨rfl, b8⟩
        rw [e7, eqSp_refl]
        have W8 := W7.trans (b8.mono W7.size)
        have OM13 := Lib.hid (OM12.out.below b8)
        clear b8 W7 e7
        go_wp2_with fail
        refine (merge_any _ va m a _ OM13.out (HA.out.below W8) (by omega) (by omega) DM.out DA.out).mono ?_
        rintro e y9 ⟨p9, r9, rfl, o9, G9, b9⟩
        have W9 := W8.trans (b9.mono W8.size)
        have OM14 := Lib.hid (OM13.out.below b9)
        have O9 := Lib.hid o9.ss
        have e9 := HM.out.again G9
        clear o9 G9 b9 W8
        go_wp2_with fail
        refine (Spans_any p9 _ _ _ _ O9.out OM14.out).mono ?_
        rintro e y10 ⟨rfl, b10⟩
        rw [e9, eqSp_refl]
        have W10 := W9.trans (b10.mono W9.size)
        go_wp2_with fail
        go_ret
        exact ⟨rfl, W10⟩

end Go.Proofs.Ytalljllloffieaa

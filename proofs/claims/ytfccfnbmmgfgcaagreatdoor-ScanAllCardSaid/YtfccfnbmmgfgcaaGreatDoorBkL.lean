/-
  CONTRACT of the program's block.Write. Conditions: at most 200 traces; of the library's tables: Ld.
  CONTRACT of the document's Write. Conditions: at most 200 traces, 10000000 spans.
  A program's store beside a document's, the same; block.Write without a store. Conditions: what each says.
-/
import Derived.Test.YtfccfnbmmgfgcaaGreatDoorBkJ
import Derived.Test.YtfccfnbmmgfgcaaGreatDoorBkA
import Derived.Test.YtfccfnbmmgfgcaaGreatDoorStG
namespace Go.Proofs.YtfccfnbmmgfgcaaGreatDoor
open Go.RowKit
set_option maxRecDepth 100000

theorem bkL_small {id : Nat} {lv : Int} {l : List Tn} {s : Sz} (hl : l.length ≤ 200) : ∀ o ∈ bkL id lv l s, o.nm.length ≤ 1000 ∧ o.b.length ≤ 10000 := by
  rcases Classical.em (BkOk id lv l s) with hk | hk
  · rw [(bk_ok hk).1]
    intro o ho
    obtain ⟨hr, h64, h8192⟩ := szB_iff.1 hk.sz
    obtain ⟨r1, r2, r3, r4, r5, r6, r7⟩ := rightI_iff.1 hr
    rcases List.mem_append.1 ho with h | h
    · obtain ⟨i, p, hp, rfl⟩ := obPages_mem h
      obtain ⟨p1, p2, p3, p4⟩ := cutL_parts s.pg l.length l hk.is p (List.mem_of_getElem? hp)
      refine ⟨?_, ?_⟩
      · show (nmOf id [112] (i : Int)).length ≤ 1000
        rw [nmOf_p]
        simp [digs_length, nmHead_length]
      · show (pgOf p).length ≤ 10000
        rcases p4 with h1 | h1
        · have := one_le p3 1
          rw [List.take_of_length_le (by omega)] at this
          rw [pgOf_length]
          omega
        · omega
    · simp only [List.mem_cons, List.not_mem_nil, or_false] at h
      have hpl := pages_len l s
      rcases h with rfl | rfl | rfl
      · refine ⟨by rw [nmOf_sort sW_i]; simp [nmHead_length], ?_⟩
        show (bkIx (pagesOf l s)).length ≤ 10000
        rw [bkIx, sealedOf_length, ixBytes_length, List.length_map]
        omega
      · refine ⟨by rw [nmOf_sort sW_f]; simp [nmHead_length], ?_⟩
        show ((bkFl l s).bytes).length ≤ 10000
        have hok : (bkFl l s).Ok := by
          refine (Bl.new_ok ?_).adds _
          refine rightI_iff.2 ⟨?_, ?_, ?_, ?_, ?_, ?_, ?_⟩ <;> omega
        rw [Bl.bytes, sealedOf_length, Bl.body_length]
        have := hok.len_le
        omega
      · refine ⟨by rw [nmOf_sort sW_m]; simp [nmHead_length], ?_⟩
        show (sealedOf (meRaw (bkMe id lv l s))).length ≤ 10000
        rw [sealedOf_length, meRaw_length]
        omega
  · rw [(bk_no hk).1]
    intro o ho
    cases ho

noncomputable def wrA (m : Sm) (id : Nat) (lv : Int) (l : List Tn) (s : Sz) : Sm × Int := if bkC id lv l s = 0 then wrL m (bkL id lv l s) else (m, bkC id lv l s)
noncomputable def wrM (m : Sm) (id : Nat) (lv : Int) (l : List Tn) (s : Sz) : Me := if (wrA m id lv l s).2 = 0 then bkM id lv l s else Me.zero

theorem Goes.newset {w0 w1 w2 : World} {F0 F1 : Nat → Prop} {g : Nat} (h : Goes w0 F0 w1 F1) (hg : w1.grownBy w2 (some g)) (hn : w0.heap.size ≤ g) : Goes w0 F0 w2 F1 :=
  ⟨⟨hg.os.trans h.apt.os, hg.tape.trans h.apt.tape, hg.output.trans h.apt.output, Nat.le_trans h.apt.size hg.size, fun q hq hF => (hg.block q (Nat.lt_of_lt_of_le hq h.apt.size) fun e => by have := Option.some.inj e; omega).trans (h.apt.block q hq hF)⟩, h.new⟩

set_option maxHeartbeats 12800000 in
theorem bwrite_any {g : Nat} {F : Nat → Prop} {m : Sm} {N : Nat} (id : Nat) (lv : Int) (v : Value) (l : List Tn) (s : Sz) (w : World) (hst : PSt w F g m) (hmf : m.fine N) (hN : N ≤ 10000) (hFg : ∀ u, Below w.heap.size w u → Ts u v l) (hid : id < 18446744073709551616) (hll : l.length ≤ 200) (hL : Ld w) :
    Calls Tryz.prog 19 #[.pointer (some ⟨g, 0, none⟩), .int .u64 (id : Int), .int .i64 lv, v, szV s] w fun e w' => e = .returned (.tuple #[meV (wrM m id lv l s), errV (wrA m id lv l s).2]) ∧ ∃ F', PSt w' F' g (wrA m id lv l s).1 ∧ Goes w F w' F' := by
  have h := hFg w (Below.refl _ _)
  obtain ⟨pg, sh, bi, hs⟩ := s
  obtain ⟨A, c, rfl, hc1, hc2⟩ := h.form
  have H := Lib.hid h
  have HLD := Lib.hid hL
  have HST := Lib.hid hst
  have HMF := Lib.hid hmf
  have HI0 := Lib.hid (BxR.start w #[.int .i64 pg, .int .i64 sh, .int .i64 bi, .int .i64 hs] meZ)
  have hC := fun u (hu : Ts u (.slice A l.length c) l) (hd : Ld u) => bmake_any id lv _ l ⟨pg, sh, bi, hs⟩ u hu hid hll hd
  simp only [szV] at hC ⊢
  clear h hL hst hmf hFg
  go_enter Tryz.func19, Tryz.ntmps19
  go_wp2_with fail
  revert HI0
  generalize (w.alloc (.cells #[.int .i64 pg, .int .i64 sh, .int .i64 bi, .int .i64 hs] 25)).alloc (.cells meZ 62) = w1
  intro HI0
  refine (hC _ (H.out.below HI0.out.bel) (HLD.out.below HI0.out.bel)).mono ?_
  rintro e w2 ⟨hm, hb2⟩
  obtain ⟨x, rfl, hx⟩ := hm.all
  have HI2 := Lib.hid (HI0.out.later hb2)
  have HW12 : Hid (w.heap.size ≤ w1.heap.size) := Lib.hid HI0.out.bel.size
  have HSZ2 : Hid (w.heap.size ≤ w2.heap.size) := Lib.hid HI2.out.bel.size
  obtain ⟨M, hMe⟩ : ∃ z, z = bkM id lv l ⟨pg, sh, bi, hs⟩ := ⟨_, rfl⟩
  obtain ⟨L, hLe⟩ : ∃ z, z = bkL id lv l ⟨pg, sh, bi, hs⟩ := ⟨_, rfl⟩
  obtain ⟨cd, hce⟩ : ∃ z, z = bkC id lv l ⟨pg, sh, bi, hs⟩ := ⟨_, rfl⟩
  have hLl := bkL_len (id := id) (lv := lv) (s := ⟨pg, sh, bi, hs⟩) hll
  have HLS := Lib.hid (bkL_small (id := id) (lv := lv) (s := ⟨pg, sh, bi, hs⟩) hll)
  have HWA : Hid (wrA m id lv l ⟨pg, sh, bi, hs⟩ = if cd = 0 then wrL m L else (m, cd)) := Lib.hid (by rw [hce, hLe]; rfl)
  have HWM : Hid (wrM m id lv l ⟨pg, sh, bi, hs⟩ = if (wrA m id lv l ⟨pg, sh, bi, hs⟩).2 = 0 then M else Me.zero) := Lib.hid (by rw [hMe]; rfl)
  rw [← hMe, ← hce]
  rw [← hLe] at hx hLl HLS
  obtain ⟨mi, ml, ms, mn, mp, mt⟩ := M
  simp only [meV]
  obtain ⟨Ax, cx, rfl, _, _⟩ := hx.form
  have hb3 : Below w2.heap.size w2 (w2.alloc (.cells #[.int .u64 mi, .int .i64 ml, .int .i64 ms, .int .i64 mn, .int .i64 mp, .int .i64 mt] 62)) := (Below.refl _ _).alloc (Nat.le_refl _) _
  have HI3 := Lib.hid (HI2.out.later hb3)
  have HX3 := Lib.hid ((hx.below hb3).lower HW12.out)
  have HM3 : Hid (Blk (w2.alloc (.cells #[.int .u64 mi, .int .i64 ml, .int .i64 ms, .int .i64 mn, .int .i64 mp, .int .i64 mt] 62)) w2.heap.size 62 #[.int .u64 mi, .int .i64 ml, .int .i64 ms, .int .i64 mn, .int .i64 mp, .int .i64 mt]) := Lib.hid (Blk.new _ _ _)
  have HS3 := Lib.hid (HST.out.below HI3.out.bel)
  have HFlt := Lib.hid HST.out.lt
  clear hm hx hb2 hb3 hMe hLe hce hC HI0 HW12
  by_cases hc0 : cd = 0
  · subst hc0
    rw [if_pos rfl] at HWA
    simp only [errV_zero]
    go_wp2_with fail
    revert HI3 HX3 HM3 HS3
    generalize w2.alloc (.cells #[.int .u64 mi, .int .i64 ml, .int .i64 ms, .int .i64 mn, .int .i64 mp, .int .i64 mt] 62) = w3
    intro HI3 HX3 HM3 HS3
    go_loopg [37] L.length (fun gk iv wr => ∃ (k : Nat) (Fk : Nat → Prop) (mk : Sm), k + gk = L.length ∧ iv = .int .i64 (k : Int) ∧ Hid (PSt wr Fk g mk ∧ mk.fine (N + k) ∧ wrL m L = wrL mk (L.drop k) ∧ Goes w3 F wr Fk))
    case atStart => exact ⟨0, F, m, by omega, rfl, Lib.hid ⟨HS3.out, HMF.out, rfl, Goes.refl _ _⟩⟩
    case round =>
      obtain ⟨k, Fk, mk, hk, rfl, HW⟩ := hrel
      clear HS3
      have hne9 : ∀ q, w.heap.size ≤ q → ¬ F q := fun q hq hF => by have := HFlt.out q hF; omega
      have HR9 : Hid (Blk wr (w.heap.size + 1) 62 meZ) := Lib.hid ((HW.out.2.2.2.apt.block _ HI3.out.b9.lt (hne9 _ (by omega))).trans HI3.out.b9)
      have HM9 : Hid (Blk wr w2.heap.size 62 #[.int .u64 mi, .int .i64 ml, .int .i64 ms, .int .i64 mn, .int .i64 mp, .int .i64 mt]) := Lib.hid ((HW.out.2.2.2.apt.block _ HM3.out.lt (hne9 _ HSZ2.out)).trans HM3.out)
      have HGW : Hid (Goes w F wr Fk) := Lib.hid ((Goes.of_below HI3.out.bel).trans HW.out.2.2.2)
      by_cases hlt : k < L.length
      · obtain ⟨gk1, hgk1⟩ : ∃ x, gk = x + 1 := ⟨gk - 1, by omega⟩
        obtain ⟨o, hko⟩ : ∃ o, L[k]? = some o := ⟨_, List.getElem?_eq_getElem hlt⟩
        have HDR : Hid (L.drop k = o :: L.drop (k + 1)) := Lib.hid (by
          have := (List.getElem?_eq_some_iff.1 hko).2
          rw [List.drop_eq_getElem_cons hlt, this])
        obtain ⟨gx, px, dx, rfl, hgb, hgx, x0, x1, hdx⟩ := HX3.out.cells hko
        have HSM := Lib.hid (HLS.out o (List.mem_of_getElem? hko))
        have e0 := (World.cell?_of_block (a := ⟨gx, px + k * 2, none⟩) (HW.out.2.2.2.apt.block gx hgx (hne9 gx hgb))).trans x0
        have e1 := (World.cell?_of_block (a := ⟨gx, px + k * 2 + 1, none⟩) (HW.out.2.2.2.apt.block gx hgx (hne9 gx hgb))).trans x1
        have hdlt : ∀ q, dx.ownBlock = some q → w.heap.size ≤ q ∧ q < w3.heap.size := fun q hq => World.ownsRow.lt hdx q hq
        have HDW := Lib.hid (hdx.apt HW.out.2.2.2.apt fun q hq => hne9 q (hdlt q hq).1)
        have HSEP : Hid (∀ q, dx.ownBlock = some q → ¬ Fk q) := Lib.hid fun q hq hF => by
          have h1 := hdlt q hq
          rcases HW.out.2.2.2.new q hF with h | h
          · exact hne9 q h1.1 h
          · omega
        obtain ⟨Ad, cd', rfl, _, _⟩ := hdx.form
        obtain ⟨nb, hnb⟩ : ∃ n, n = o.b.length := ⟨_, rfl⟩
        rw [← hnb] at e1 HDW HSEP
        clear hnb hko x0 x1 hdx hdlt hne9
        have hb4 : Below wr.heap.size wr (wr.alloc (.cells #[.string (Bstr o.nm), .slice Ad nb cd'] 98)) := (Below.refl _ _).alloc (Nat.le_refl _) _
        have hput := stPut_any (n := o.nm) (b := o.b) (HW.out.1.below hb4) HW.out.2.1 (by omega) (by have := HSM.out.1; omega) ((HDW.out.below hb4).bs) (fun _ => HSEP.out) (by have := HSM.out.2; omega)
        have HW4 : Hid (mk.fine (N + k) ∧ wrL m L = wrL mk (o :: L.drop (k + 1)) ∧ Goes w3 F (wr.alloc (.cells #[.string (Bstr o.nm), .slice Ad nb cd'] 98)) Fk) := Lib.hid ⟨HW.out.2.1, by rw [← HDR.out]; exact HW.out.2.2.1, HW.out.2.2.2.later hb4⟩
        have HR4 := Lib.hid (HR9.out.below hb4 HR9.out.lt)
        have HG4 := Lib.hid (HGW.out.later hb4)
        obtain ⟨pc, hpc⟩ : ∃ z, z = (sPut mk o.nm o.b).2 := ⟨_, rfl⟩
        obtain ⟨pm, hpm⟩ : ∃ z, z = (sPut mk o.nm o.b).1 := ⟨_, rfl⟩
        have HPE : Hid (sPut mk o.nm o.b = (pm, pc)) := Lib.hid (by rw [hpc, hpm])
        rw [← hpc, ← hpm] at hput
        have HFI : Hid (pm.fine (N + (k + 1))) := Lib.hid (by rw [hpm]; exact HW.out.2.1.put _ _)
        clear hpc hpm hb4 HW HR9 HGW HDW HSEP HM9
        go_wp2_with fail
        refine hput.mono ?_
        rintro e w5 ⟨rfl, F5, hP5, hA5, hn5⟩
        have HG5 := Lib.hid (HG4.out.trans ⟨hA5, hn5⟩)
        have HG35 := Lib.hid (HW4.out.2.2.trans ⟨hA5, hn5⟩)
        have HP5 := Lib.hid hP5
        by_cases hp0 : pc = 0
        · subst hp0
          simp only [errV_zero]
          have HEQ : Hid (wrL m L = wrL pm (L.drop (k + 1))) := Lib.hid (by
            rw [HW4.out.2.1, wrL_ok (by rw [HPE.out]), HPE.out])
          clear hput hP5 hA5 hn5 e0 e1
          go_wp2_with fail
          go_roundg gk1
          case measure => omega
          case rel => exact ⟨k + 1, F5, pm, by omega, by go_num, Lib.hid ⟨HP5.out, HFI.out, HEQ.out, HG35.out⟩⟩
        · have hce0 : errV pc = code pc := errV_code hp0
          rw [hce0]
          have HEQ : Hid (wrL m L = (pm, pc)) := Lib.hid (by
            rw [HW4.out.2.1, wrL_no (by rw [HPE.out]; exact hp0), HPE.out])
          have HR5 : Hid (Blk w5 (w.heap.size + 1) 62 meZ) := Lib.hid ((hA5.block _ HR4.out.lt fun hF => by
            rcases HW4.out.2.2.new _ hF with h | h
            · have := HFlt.out _ h
              omega
            · have := HI3.out.b9.lt
              omega).trans HR4.out)
          clear hput hP5 hA5 hn5 e0 e1
          have hfz := fun i => HR5.out.frozen i
          have r0 := HR5.out.cell 0
          have r1 := HR5.out.cell 1
          have r2 := HR5.out.cell 2
          have r3 := HR5.out.cell 3
          have r4 := HR5.out.cell 4
          have r5 := HR5.out.cell 5
          simp at r0 r1 r2 r3 r4 r5
          go_wp2_with fail
          have hm2 := setall6 _ HR5.out (.int .u64 0) (.int .i64 0) (.int .i64 0) (.int .i64 0) (.int .i64 0) (.int .i64 0)
          have hg2 := gset6 w5 (w.heap.size + 1) (.int .u64 0) (.int .i64 0) (.int .i64 0) (.int .i64 0) (.int .i64 0) (.int .i64 0)
          refine bodyPost_ret (v := .tuple #[.agg meZ, code pc]) (by have c := hm2.cell; simp [results, go_sem, c]; try rfl) rfl ?_
          have hnF : ¬ F5 (w.heap.size + 1) := fun hF => by
            rcases HG35.out.new _ hF with h | h
            · have := HFlt.out _ h
              omega
            · have := HI3.out.b9.lt
              omega
          refine ⟨?_, F5, ?_, HG5.out.newset hg2 (Nat.le_succ _)⟩
          · rw [HWM.out, HWA.out, HEQ.out, if_neg hp0, errV_code hp0]
            rfl
          · rw [HWA.out, HEQ.out]
            exact HP5.out.keep (Apt.of_grown hg2 fun q hq => by have := Option.some.inj hq; subst this; exact hnF)
      · have hkn : k = L.length := by omega
        subst hkn
        have HEQ : Hid (wrL m L = (mk, 0)) := Lib.hid (by rw [HW.out.2.2.1, List.drop_length]; rfl)
        have HPW := Lib.hid HW.out.1
        have hnF : ¬ Fk (w.heap.size + 1) := fun hF => by
          rcases HW.out.2.2.2.new _ hF with h | h
          · have := HFlt.out _ h
            omega
          · have := HI3.out.b9.lt
            omega
        have HNF := Lib.hid hnF
        have hfz := fun i => HR9.out.frozen i
        have r0 := HR9.out.cell 0
        have r1 := HR9.out.cell 1
        have r2 := HR9.out.cell 2
        have r3 := HR9.out.cell 3
        have r4 := HR9.out.cell 4
        have r5 := HR9.out.cell 5
        simp at r0 r1 r2 r3 r4 r5
        have m0 := HM9.out.cell 0
        have m1 := HM9.out.cell 1
        have m2 := HM9.out.cell 2
        have m3 := HM9.out.cell 3
        have m4 := HM9.out.cell 4
        have m5 := HM9.out.cell 5
        simp at m0 m1 m2 m3 m4 m5
        clear HW hnF hne9
        go_wp2_with fail
        have hm2 := setall6 _ HR9.out (.int .u64 mi) (.int .i64 ml) (.int .i64 ms) (.int .i64 mn) (.int .i64 mp) (.int .i64 mt)
        have hg2 := gset6 wr (w.heap.size + 1) (.int .u64 mi) (.int .i64 ml) (.int .i64 ms) (.int .i64 mn) (.int .i64 mp) (.int .i64 mt)
        refine bodyPost_ret (v := .tuple #[.agg #[.int .u64 mi, .int .i64 ml, .int .i64 ms, .int .i64 mn, .int .i64 mp, .int .i64 mt], .nilIface]) (by have c := hm2.cell; simp [results, go_sem, c]; try rfl) rfl ?_
        refine ⟨?_, Fk, ?_, HGW.out.newset hg2 (Nat.le_succ _)⟩
        · rw [HWM.out, HWA.out, HEQ.out, if_pos rfl]
          rfl
        · rw [HWA.out, HEQ.out]
          exact HPW.out.keep (Apt.of_grown hg2 fun q hq => by have := Option.some.inj hq; subst this; exact HNF.out)
  · rw [if_neg hc0] at HWA
    have hce0 : errV cd = code cd := errV_code hc0
    rw [hce0]
    have hlt2 := HI2.out.b9.lt
    have hfz := fun i => HI2.out.b9.frozen i
    have r0 := HI2.out.b9.cell 0
    have r1 := HI2.out.b9.cell 1
    have r2 := HI2.out.b9.cell 2
    have r3 := HI2.out.b9.cell 3
    have r4 := HI2.out.b9.cell 4
    have r5 := HI2.out.b9.cell 5
    simp at r0 r1 r2 r3 r4 r5
    go_wp2_with fail
    have hm2 := (setall6 _ HI2.out.b9 (.int .u64 0) (.int .i64 0) (.int .i64 0) (.int .i64 0) (.int .i64 0) (.int .i64 0)).alloc (.cells #[.int .u64 mi, .int .i64 ml, .int .i64 ms, .int .i64 mn, .int .i64 mp, .int .i64 mt] 62)
    have hg2 := gset6 w2 (w.heap.size + 1) (.int .u64 0) (.int .i64 0) (.int .i64 0) (.int .i64 0) (.int .i64 0) (.int .i64 0)
    have hB := HI2.out.bel.grown hg2 HI2.out.bel.size fun q hq => by have := Option.some.inj hq; omega
    refine bodyPost_ret (v := .tuple #[.agg meZ, code cd]) (by have c := hm2.cell; simp [results, go_sem, c]; try rfl) rfl ?_
    refine ⟨?_, F, ?_, Goes.of_below (hB.alloc hB.size _)⟩
    · rw [HWM.out, HWA.out, if_neg hc0, hce0]
      rfl
    · rw [HWA.out]
      exact HST.out.below (hB.alloc hB.size _)

def yF (g : Nat) (v : Value) : Nat → Prop := fun q => q = g ∨ v.ownBlock = some q

theorem DS.set9 {w w' : World} {base g q : Nat} {v : Value} {m : Sm} (h : DS w base g v m) (hg : w.grownBy w' (some q)) (hn : ¬ yF g v q) : DS w' base g v m :=
  ⟨h.blk.grown hg fun e => hn (.inl (Option.some.inj e).symm), h.row.kept hg (by
    cases hv : v.ownBlock with
    | none => exact .inl rfl
    | some z => exact .inr fun e => hn (.inr (by rw [hv, e]))), h.ne, h.ge⟩

set_option maxHeartbeats 12800000 in
theorem DWrite_any {base g : Nat} {vs : Value} {m : Sm} {N : Nat} (id : Nat) (lv : Int) (v : Value) (l : List Tn) (s : Sz) (w : World) (hst : DS w base g vs m) (hmf : m.fine N) (hN : N ≤ 10000) (h : Ts w v l) (hid : id < 18446744073709551616) (hll : l.length ≤ 200) (hfl : (flatT l).length ≤ 10000000) :
    Calls Tryz.prog 20 #[.pointer (some ⟨g, 0, none⟩), .int .u64 (id : Int), .int .i64 lv, v, szV s] w fun e w' => e = .returned (.tuple #[meV (wrM m id lv l s), .int .i64 (wrA m id lv l s).2]) ∧ ∃ v', DS w' base g v' (wrA m id lv l s).1 ∧ Goes w (yF g vs) w' (yF g v') := by
  obtain ⟨pg, sh, bi, hs⟩ := s
  obtain ⟨A, c, rfl, hc1, hc2⟩ := h.form
  have H := Lib.hid h
  have HST := Lib.hid hst
  have HMF := Lib.hid hmf
  have HFlt : Hid (∀ q, yF g vs q → q < w.heap.size) := Lib.hid fun q hq => by
    rcases hq with h | h
    · rw [h]; exact hst.blk.lt
    · exact hst.row.lt q h
  have HI0 := Lib.hid (BxR.start w #[.int .i64 pg, .int .i64 sh, .int .i64 bi, .int .i64 hs] meZ)
  have hC := fun u (hu : Ts u (.slice A l.length c) l) => DMake_any id lv _ l ⟨pg, sh, bi, hs⟩ u hu hid hll hfl
  simp only [szV] at hC ⊢
  clear h hst hmf
  go_enter Tryz.func20, Tryz.ntmps20
  go_wp2_with fail
  revert HI0
  generalize (w.alloc (.cells #[.int .i64 pg, .int .i64 sh, .int .i64 bi, .int .i64 hs] 25)).alloc (.cells meZ 62) = w1
  intro HI0
  refine (hC _ (H.out.below HI0.out.bel)).mono ?_
  rintro e w2 ⟨hm, hb2⟩
  obtain ⟨x, rfl, hx⟩ := hm.all
  have HI2 := Lib.hid (HI0.out.later hb2)
  have HW12 : Hid (w.heap.size ≤ w1.heap.size) := Lib.hid HI0.out.bel.size
  have HSZ2 : Hid (w.heap.size ≤ w2.heap.size) := Lib.hid HI2.out.bel.size
  obtain ⟨M, hMe⟩ : ∃ z, z = bkM id lv l ⟨pg, sh, bi, hs⟩ := ⟨_, rfl⟩
  obtain ⟨L, hLe⟩ : ∃ z, z = bkL id lv l ⟨pg, sh, bi, hs⟩ := ⟨_, rfl⟩
  obtain ⟨cd, hce⟩ : ∃ z, z = bkC id lv l ⟨pg, sh, bi, hs⟩ := ⟨_, rfl⟩
  have hLl := bkL_len (id := id) (lv := lv) (s := ⟨pg, sh, bi, hs⟩) hll
  have HLS := Lib.hid (bkL_small (id := id) (lv := lv) (s := ⟨pg, sh, bi, hs⟩) hll)
  have HWA : Hid (wrA m id lv l ⟨pg, sh, bi, hs⟩ = if cd = 0 then wrL m L else (m, cd)) := Lib.hid (by rw [hce, hLe]; rfl)
  have HWM : Hid (wrM m id lv l ⟨pg, sh, bi, hs⟩ = if (wrA m id lv l ⟨pg, sh, bi, hs⟩).2 = 0 then M else Me.zero) := Lib.hid (by rw [hMe]; rfl)
  rw [← hMe, ← hce]
  rw [← hLe] at hx hLl HLS
  obtain ⟨mi, ml, ms, mn, mp, mt⟩ := M
  simp only [meV]
  obtain ⟨Ax, cx, hxv, _, _⟩ := hx.lv.form
  rw [List.length_map] at hxv
  subst hxv
  have hb3 : Below w2.heap.size w2 (w2.alloc (.cells #[.int .u64 mi, .int .i64 ml, .int .i64 ms, .int .i64 mn, .int .i64 mp, .int .i64 mt] 62)) := (Below.refl _ _).alloc (Nat.le_refl _) _
  have HI3 := Lib.hid (HI2.out.later hb3)
  have HX3 := Lib.hid ((hx.below hb3).lower HW12.out)
  have HM3 : Hid (Blk (w2.alloc (.cells #[.int .u64 mi, .int .i64 ml, .int .i64 ms, .int .i64 mn, .int .i64 mp, .int .i64 mt] 62)) w2.heap.size 62 #[.int .u64 mi, .int .i64 ml, .int .i64 ms, .int .i64 mn, .int .i64 mp, .int .i64 mt]) := Lib.hid (Blk.new _ _ _)
  have HS3 := Lib.hid (HST.out.below HI3.out.bel)
  clear hm hx hb2 hb3 hMe hLe hce hC HI0 HW12
  by_cases hc0 : cd = 0
  · subst hc0
    rw [if_pos rfl] at HWA
    go_wp2_with fail
    revert HI3 HX3 HM3 HS3
    generalize w2.alloc (.cells #[.int .u64 mi, .int .i64 ml, .int .i64 ms, .int .i64 mn, .int .i64 mp, .int .i64 mt] 62) = w3
    intro HI3 HX3 HM3 HS3
    go_loopg [15] L.length (fun gk iv wr => ∃ (k : Nat) (vk : Value) (mk : Sm), k + gk = L.length ∧ iv = .int .i64 (k : Int) ∧ Hid (DS wr base g vk mk ∧ mk.fine (N + k) ∧ wrL m L = wrL mk (L.drop k) ∧ Goes w3 (yF g vs) wr (yF g vk)))
    case atStart => exact ⟨0, vs, m, by omega, rfl, Lib.hid ⟨HS3.out, HMF.out, rfl, Goes.refl _ _⟩⟩
    case round =>
      obtain ⟨k, vk, mk, hk, rfl, HW⟩ := hrel
      clear HS3
      have hne9 : ∀ q, w.heap.size ≤ q → ¬ yF g vs q := fun q hq hF => by have := HFlt.out q hF; omega
      have HR9 : Hid (Blk wr (w.heap.size + 1) 62 meZ) := Lib.hid ((HW.out.2.2.2.apt.block _ HI3.out.b9.lt (hne9 _ (by omega))).trans HI3.out.b9)
      have HM9 : Hid (Blk wr w2.heap.size 62 #[.int .u64 mi, .int .i64 ml, .int .i64 ms, .int .i64 mn, .int .i64 mp, .int .i64 mt]) := Lib.hid ((HW.out.2.2.2.apt.block _ HM3.out.lt (hne9 _ HSZ2.out)).trans HM3.out)
      have HGW : Hid (Goes w (yF g vs) wr (yF g vk)) := Lib.hid ((Goes.of_below HI3.out.bel).trans HW.out.2.2.2)
      have HNF : Hid (¬ yF g vk (w.heap.size + 1)) := Lib.hid fun hF => by
        rcases HW.out.2.2.2.new _ hF with h | h
        · have := HFlt.out _ h
          omega
        · have := HI3.out.b9.lt
          omega
      by_cases hlt : k < L.length
      · obtain ⟨gk1, hgk1⟩ : ∃ x, gk = x + 1 := ⟨gk - 1, by omega⟩
        obtain ⟨o, hko⟩ : ∃ o, L[k]? = some o := ⟨_, List.getElem?_eq_getElem hlt⟩
        have HDR : Hid (L.drop k = o :: L.drop (k + 1)) := Lib.hid (by
          have := (List.getElem?_eq_some_iff.1 hko).2
          rw [List.drop_eq_getElem_cons hlt, this])
        have HSM := Lib.hid (HLS.out o (List.mem_of_getElem? hko))
        obtain ⟨gx, px, hAx, hgx, hcx⟩ := HX3.out.lv.cells (by omega) (show (L.map obC)[k]? = some (obC o) by rw [List.getElem?_map, hko]; rfl)
        subst hAx
        have hgb := HX3.out.ge gx rfl
        have x0 := hcx 0 _ rfl
        have x1 := hcx 1 _ rfl
        simp only [Nat.add_zero] at x0
        have e0 := (World.cell?_of_block (a := ⟨gx, px + k * 2, none⟩) (HW.out.2.2.2.apt.block gx hgx (hne9 gx hgb))).trans x0
        have e1 := (World.cell?_of_block (a := ⟨gx, px + k * 2 + 1, none⟩) (HW.out.2.2.2.apt.block gx hgx (hne9 gx hgb))).trans x1
        have hgxr : gx < wr.heap.size := Nat.lt_of_lt_of_le hgx HW.out.2.2.2.apt.size
        have HNX : Hid (¬ yF g vk gx) := Lib.hid fun hF => by
          rcases HW.out.2.2.2.new _ hF with h | h
          · exact hne9 gx hgb h
          · omega
        have hcl : ∀ u, Apt (yF g vk) wr u → u.cell? ⟨gx, px + k * 2, none⟩ = some (.string (Bstr o.nm)) ∧ u.cell? ⟨gx, px + k * 2 + 1, none⟩ = some (.string (Bstr o.b)) := fun u hu =>
          ⟨(World.cell?_of_block (a := ⟨gx, px + k * 2, none⟩) (hu.block gx hgxr HNX.out)).trans e0, (World.cell?_of_block (a := ⟨gx, px + k * 2 + 1, none⟩) (hu.block gx hgxr HNX.out)).trans e1⟩
        have a0 : (0 : Int) ≤ (k : Int) := by omega
        have a1 : (k : Int) < (L.length : Int) := by omega
        have hput := DPut_any base g vk mk o.nm o.b wr.drew (HW.out.1.below (Below.refl _ _).drew) (HW.out.2.1.ok (by omega)) (by have := HW.out.2.1.calls1; omega) (by have := HSM.out.1; omega) (by have := HSM.out.2; omega)
        obtain ⟨pc, hpc⟩ : ∃ z, z = (sPut mk o.nm o.b).2 := ⟨_, rfl⟩
        obtain ⟨pm, hpm⟩ : ∃ z, z = (sPut mk o.nm o.b).1 := ⟨_, rfl⟩
        have HPE : Hid (sPut mk o.nm o.b = (pm, pc)) := Lib.hid (by rw [hpc, hpm])
        rw [← hpc, ← hpm] at hput
        have HFI : Hid (pm.fine (N + (k + 1))) := Lib.hid (by rw [hpm]; exact HW.out.2.1.put _ _)
        have HEQ0 : Hid (wrL m L = wrL mk (o :: L.drop (k + 1))) := Lib.hid (by rw [← HDR.out]; exact HW.out.2.2.1)
        have HG3 := Lib.hid HW.out.2.2.2
        clear hpc hpm hko x0 x1 e0 e1 hcx HW hne9 HM9 hgxr hgb hgx
        go_wp2_with fail
        refine wp_region_mix [(0, false), (1, false), (2, false), (3, false), (4, false), (5, false), (6, false), (7, false), (8, false), (9, false), (10, false), (11, true), (12, true)] (fun u => Apt (yF g vk) wr u) (by kernel_rfl) (by kernel_rfl) (by kernel_rfl) rfl (Apt.of_below (Below.refl _ _).drew) ?_
        iterate 11
          (refine mix_read (o := ⟨_, _, _, _, _, _⟩) (v := ?_) rfl (by rfl) (fun w' hS => ?_) ?_
           rotate_left
           obtain ⟨j0, j1⟩ := hcl w' hS
           go_simp
           with_reducible rfl
           try simp only [Act.put, List.setIfInBounds_toArray, List.set_cons_zero, List.set_cons_succ])
        refine mix_step (o := ⟨_, _, _, _, _, _⟩) rfl (fun K hK => ?_)
        go_simp
        refine hput.mono ?_
        rintro e w5 ⟨rfl, v5, hD5, hA5, hn5⟩
        have hA5' : Apt (yF g vk) wr w5 := (Apt.of_below (Below.refl _ wr).drew).trans hA5
        have hG : Goes wr (yF g vk) w5 (yF g v5) := ⟨hA5', fun q hq => by
          rcases hq with h | h
          · exact .inl (.inl h)
          · rcases hn5 q h with h | h
            · exact .inl (.inr h)
            · exact .inr h⟩
        have HG5 := Lib.hid (HGW.out.trans hG)
        have HG35 := Lib.hid (HG3.out.trans hG)
        have HD5 := Lib.hid hD5
        refine hK.out _ _ hA5' ?_
        clear hK K hput hD5 hA5 hn5 hG hcl
        try simp only [Act.put, List.setIfInBounds_toArray, List.set_cons_zero, List.set_cons_succ]
        refine mix_step (o := ⟨_, _, _, _, _, _⟩) rfl (fun K hK => ?_)
        go_simp
        refine hK.out _ _ hA5' ?_
        clear hK K
        refine mix_done ?_
        by_cases hp0 : pc = 0
        · subst hp0
          have HEQ : Hid (wrL m L = wrL pm (L.drop (k + 1))) := Lib.hid (by
            rw [HEQ0.out, wrL_ok (by rw [HPE.out]), HPE.out])
          clear hA5'
          go_wp2_with fail
          go_roundg gk1
          case measure => omega
          case rel => exact ⟨k + 1, v5, pm, by omega, by go_num, Lib.hid ⟨HD5.out, HFI.out, HEQ.out, HG35.out⟩⟩
        · have hpz : (pc == 0) = false := by simpa using hp0
          have HEQ : Hid (wrL m L = (pm, pc)) := Lib.hid (by
            rw [HEQ0.out, wrL_no (by rw [HPE.out]; exact hp0), HPE.out])
          have HR5 : Hid (Blk w5 (w.heap.size + 1) 62 meZ) := Lib.hid ((hA5'.block _ HR9.out.lt HNF.out).trans HR9.out)
          have HN5 : Hid (¬ yF g v5 (w.heap.size + 1)) := Lib.hid fun hF => by
            rcases HG35.out.new _ hF with h | h
            · have := HFlt.out _ h
              omega
            · have := HI3.out.b9.lt
              omega
          clear hA5'
          have hfz := fun i => HR5.out.frozen i
          have r0 := HR5.out.cell 0
          have r1 := HR5.out.cell 1
          have r2 := HR5.out.cell 2
          have r3 := HR5.out.cell 3
          have r4 := HR5.out.cell 4
          have r5 := HR5.out.cell 5
          simp at r0 r1 r2 r3 r4 r5
          go_wp2_with fail
          have hm2 := setall6 _ HR5.out (.int .u64 0) (.int .i64 0) (.int .i64 0) (.int .i64 0) (.int .i64 0) (.int .i64 0)
          have hg2 := gset6 w5 (w.heap.size + 1) (.int .u64 0) (.int .i64 0) (.int .i64 0) (.int .i64 0) (.int .i64 0) (.int .i64 0)
          refine bodyPost_ret (v := .tuple #[.agg meZ, .int .i64 pc]) (by have c := hm2.cell; simp [results, go_sem, c]; try rfl) rfl ?_
          refine ⟨?_, v5, ?_, HG5.out.newset hg2 (Nat.le_succ _)⟩
          · rw [HWM.out, HWA.out, HEQ.out, if_neg hp0]
            rfl
          · rw [HWA.out, HEQ.out]
            exact HD5.out.set9 hg2 HN5.out
      · have hkn : k = L.length := by omega
        subst hkn
        have HEQ : Hid (wrL m L = (mk, 0)) := Lib.hid (by rw [HW.out.2.2.1, List.drop_length]; rfl)
        have HPW := Lib.hid HW.out.1
        have hfz := fun i => HR9.out.frozen i
        have r0 := HR9.out.cell 0
        have r1 := HR9.out.cell 1
        have r2 := HR9.out.cell 2
        have r3 := HR9.out.cell 3
        have r4 := HR9.out.cell 4
        have r5 := HR9.out.cell 5
        simp at r0 r1 r2 r3 r4 r5
        have m0 := HM9.out.cell 0
        have m1 := HM9.out.cell 1
        have m2 := HM9.out.cell 2
        have m3 := HM9.out.cell 3
        have m4 := HM9.out.cell 4
        have m5 := HM9.out.cell 5
        simp at m0 m1 m2 m3 m4 m5
        clear HW hne9
        go_wp2_with fail
        have hm2 := setall6 _ HR9.out (.int .u64 mi) (.int .i64 ml) (.int .i64 ms) (.int .i64 mn) (.int .i64 mp) (.int .i64 mt)
        have hg2 := gset6 wr (w.heap.size + 1) (.int .u64 mi) (.int .i64 ml) (.int .i64 ms) (.int .i64 mn) (.int .i64 mp) (.int .i64 mt)
        refine bodyPost_ret (v := .tuple #[.agg #[.int .u64 mi, .int .i64 ml, .int .i64 ms, .int .i64 mn, .int .i64 mp, .int .i64 mt], .int .i64 0]) (by have c := hm2.cell; simp [results, go_sem, c]; try rfl) rfl ?_
        refine ⟨?_, vk, ?_, HGW.out.newset hg2 (Nat.le_succ _)⟩
        · rw [HWM.out, HWA.out, HEQ.out, if_pos rfl]
          rfl
        · rw [HWA.out, HEQ.out]
          exact HPW.out.set9 hg2 HNF.out
  · rw [if_neg hc0] at HWA
    have hpz : (cd == 0) = false := by simpa using hc0
    have hlt2 := HI2.out.b9.lt
    have hfz := fun i => HI2.out.b9.frozen i
    have r0 := HI2.out.b9.cell 0
    have r1 := HI2.out.b9.cell 1
    have r2 := HI2.out.b9.cell 2
    have r3 := HI2.out.b9.cell 3
    have r4 := HI2.out.b9.cell 4
    have r5 := HI2.out.b9.cell 5
    simp at r0 r1 r2 r3 r4 r5
    go_wp2_with fail
    have hm2 := (setall6 _ HI2.out.b9 (.int .u64 0) (.int .i64 0) (.int .i64 0) (.int .i64 0) (.int .i64 0) (.int .i64 0)).alloc (.cells #[.int .u64 mi, .int .i64 ml, .int .i64 ms, .int .i64 mn, .int .i64 mp, .int .i64 mt] 62)
    have hg2 := gset6 w2 (w.heap.size + 1) (.int .u64 0) (.int .i64 0) (.int .i64 0) (.int .i64 0) (.int .i64 0) (.int .i64 0)
    have hB := HI2.out.bel.grown hg2 HI2.out.bel.size fun q hq => by have := Option.some.inj hq; omega
    refine bodyPost_ret (v := .tuple #[.agg meZ, .int .i64 cd]) (by have c := hm2.cell; simp [results, go_sem, c]; try rfl) rfl ?_
    refine ⟨?_, vs, ?_, Goes.of_below (hB.alloc hB.size _)⟩
    · rw [HWM.out, HWA.out, if_neg hc0]
      rfl
    · rw [HWA.out]
      exact HST.out.below (hB.alloc hB.size _)

theorem keepBlk {bad : Nat → Prop} {w : World} {g : Nat} {t : TypeId} {cs : Array Value} (h : Blk w g t cs) (hn : ¬ bad g) : Keep bad (fun u => Blk u g t cs) w := fun _ ha => (ha.block g h.lt hn).trans h
theorem Keep.and {bad : Nat → Prop} {φ ψ : World → Prop} {w : World} (h : Keep bad φ w) (k : Keep bad ψ w) : Keep bad (fun u => φ u ∧ ψ u) w := fun u ha => ⟨h u ha, k u ha⟩
abbrev stA (g : Nat) (m : Sm) : World → (Nat → Prop) → Prop := fun w F => PSt w F g m
def stB (base g : Nat) (m : Sm) : World → (Nat → Prop) → Prop := fun w G => ∃ v, DS w base g v m ∧ G = yF g v
theorem stA_thing (g : Nat) (m : Sm) : Thing (stA g m) := ⟨fun h ha => h.keep ha, fun h => h.lt⟩
theorem stB_thing (base g : Nat) (m : Sm) : Thing (stB base g m) := ⟨fun ⟨v, h, e⟩ ha => ⟨v, by
    subst e
    exact ⟨(ha.block g h.blk.lt fun hn => hn (.inl rfl)).trans h.blk, h.row.apt ha fun q hq hn => hn (.inr hq), h.ne, h.ge⟩, e⟩, fun ⟨v, h, e⟩ q hq => by
    subst e
    rcases hq with hq | hq
    · rw [hq]; exact h.blk.lt
    · exact h.row.lt q hq⟩
theorem Kept.start (room : Int) (h : 1 ≤ room) (n : Int) : Kept (failS ⟨room, -1, 0, []⟩ n) := ⟨Rise.nil, (fun o ho => by cases ho), by show ((usedL [] : Nat) : Int) ≤ room; simp [usedL]; omega⟩
theorem Kept.wrA {m : Sm} (h : Kept m) (id : Nat) (lv : Int) (l : List Tn) (s : Sz) : Kept (wrA m id lv l s).1 := by
  unfold Go.Proofs.YtfccfnbmmgfgcaaGreatDoor.wrA
  split
  · exact h.wr _ _
  · exact h
theorem wrA_fine {m : Sm} {N : Nat} (h : m.fine N) (id : Nat) (lv : Int) (l : List Tn) (s : Sz) (hl : l.length ≤ 200) : (wrA m id lv l s).1.fine (N + 203) := by
  unfold Go.Proofs.YtfccfnbmmgfgcaaGreatDoor.wrA
  have := bkL_len (id := id) (lv := lv) (s := s) hl
  split
  · exact (wrL_fine _ _ _ h).more (by omega)
  · exact h.more (by omega)
theorem fine_start (room : Int) (h0 : 1 ≤ room) (h1 : room ≤ 1048576) : (⟨room, -1, 0, []⟩ : Sm).fine 0 := ⟨by show 0 ≤ room; omega, h1, by show (-1 : Int) ≤ -1; omega, by show (-1 : Int) ≤ 9223372036854775807; omega, by show (0 : Int) ≤ 0; omega, by show (0 : Int) ≤ ((0 : Nat) : Int); omega, by show 0 ≤ 0; omega, by show usedL [] ≤ 1048576; simp [usedL]⟩
theorem left_call {m : Sm} (h : m.left = -1) : callB m = true ∧ (callS m).left = -1 := by
  refine ⟨by rw [callB, h]; rfl, ?_⟩
  show (if m.left ≤ 0 then (-1 : Int) else m.left - 1) = -1
  rw [h]
  rfl
theorem sPut_left1 {m : Sm} {n b : List UInt8} (h : m.left = -1) : (sPut m n b).1.left = -1 := by
  have := (left_call h).2
  unfold sPut
  repeat' split
  all_goals exact this
theorem wrL_left1 : ∀ (os : List Ob) (m : Sm), m.left = -1 → (wrL m os).1.left = -1
  | [], m, h => h
  | o :: os, m, h => by
    rw [wrL]
    split
    · exact wrL_left1 os _ (sPut_left1 h)
    · exact sPut_left1 h
theorem wrA_left1 {m : Sm} (h : m.left = -1) (id : Nat) (lv : Int) (l : List Tn) (s : Sz) : (wrA m id lv l s).1.left = -1 := by
  unfold wrA
  split
  · exact wrL_left1 _ _ h
  · exact h
theorem sDel_left1 {m : Sm} {n : List UInt8} (h : m.left = -1) : (sDel m n).1.left = -1 := by
  have := (left_call h).2
  unfold sDel
  repeat' split
  all_goals exact this
theorem sAlt_left1 {m : Sm} {n : List UInt8} {at_ : Int} {x : UInt8} (h : m.left = -1) : (sAlt m n at_ x).1.left = -1 := by
  unfold sAlt
  repeat' split
  all_goals exact h

end Go.Proofs.YtfccfnbmmgfgcaaGreatDoor

/-
  tankardlaw10.KwayMerges and KwayParts, walked over what the program's kway.Merge is to tell ('MergeK'). Conditions: what each theorem says.
-/
import Derived.Test.YtpanpebllapbcaaKwD
namespace Go.Proofs.Ytpanpebllapbcaa
open Go.RowKit
set_option maxRecDepth 100000

theorem all_take_isT {rows : List (List Tn)} {k : Nat} {r : List Tn} (h : ∀ x ∈ rows.take k, IsT x) (hr : rows[k]? = some r) (hi : IsT r) : ∀ x ∈ rows.take (k + 1), IsT x := fun x hx => by
  rw [take_snoc_at hr] at hx
  rcases List.mem_append.1 hx with h1 | h1
  · exact h x h1
  · simp at h1
    subst h1
    exact hi

set_option maxHeartbeats 3200000 in
theorem kwayMerges_any (hM : MergeK) (v : Value) (rows : List (List Tn)) (w : World) (h : Sls TsV w v rows) (hl : ∀ r ∈ rows, r.length ≤ 140737488355328) :
    Calls Try.prog 3 #[v] w fun e w' => e = .returned (.bool true) ∧ Below w.heap.size w w' := by
  have H := Lib.hid h
  have HM : Hid MergeK := Lib.hid hM
  have HL := Lib.hid hl
  obtain ⟨A, c, rfl, hc1, hc2⟩ := h.form
  have hup := fun u => up10_any hM u
  clear h hM hl
  go_enter Try.func3, Try.ntmps3
  go_wp2_with fail
  refine (hup _).mono ?_
  rintro e w1 ⟨rfl, hb1⟩
  have HB1 := Lib.hid hb1
  have hsm := small_any _ rows w1 (sls_ts_below H.out hb1) HL.out
  have H1 := Lib.hid (sls_ts_below H.out hb1)
  clear hb1 hup
  generalize hse : smallB rows = sb at hsm
  have HSE := Lib.hid hse
  clear hse
  go_wp2_with fail
  refine hsm.mono ?_
  rintro e w2 ⟨rfl, rfl⟩
  clear hsm
  cases sb with
  | false =>
    go_wp2_with fail
    go_ret
    exact ⟨rfl, HB1.out⟩
  | true =>
    obtain ⟨hf1, hf2, hf3, hf4⟩ := small_few HSE.out
    have hcall := HM.out H1.out (by omega) (fun r hr => by have := hf2 r hr; omega) (by omega) (fun s hs => by have := hf4 s hs; omega)
    have HF := Lib.hid (And.intro hf2 (And.intro hf3 hf4))
    clear hf2 hf3 hf4
    go_wp2_with fail
    refine hcall.mono ?_
    rintro e w3 ⟨x, err, rfl, hP, hb3⟩
    have HP := Lib.hid hP
    have HB3 : Hid (Below w.heap.size w w3) := Lib.hid (HB1.out.trans (hb3.mono HB1.out.size))
    have H3 := Lib.hid (sls_ts_below H1.out hb3)
    have hform : ∃ Ax nx cx, x = .slice Ax nx cx := by
      rcases hP with ⟨_, _, g, _, _, ht⟩ | ⟨_, _, A', c', e⟩ | ⟨_, _, _, A', c', e⟩
      · obtain ⟨A', c', e, _⟩ := Ts.form ht
        exact ⟨_, _, _, e⟩
      · exact ⟨_, _, _, e⟩
      · exact ⟨_, _, _, e⟩
    obtain ⟨Ax, nx, cx, rfl⟩ := hform
    clear hcall hP hb3
    go_wp2_with fail
    go_loopg [7, 8] rows.length (fun gk iv _ wr => ∃ (k : Nat), k + gk = rows.length ∧ iv = .int .i64 (k : Int) ∧ Hid (Below w3.heap.size w3 wr ∧ ∀ r ∈ rows.take k, IsT r))
    case atStart => exact ⟨0, by omega, rfl, Lib.hid ⟨Below.refl _ _, fun r hr => by simp at hr⟩⟩
    case round =>
      obtain ⟨k, hk, rfl, HN⟩ := hrel
      have H4 := Lib.hid (sls_ts_below H3.out HN.out.1)
      have HB4 : Hid (Below w.heap.size w wr) := Lib.hid (HB3.out.trans (HN.out.1.mono HB3.out.size))
      by_cases hlt : k < rows.length
      · as_aux_lemma =>
          obtain ⟨gk1, hgk1⟩ : ∃ x, gk = x + 1 := ⟨gk - 1, by omega⟩
          obtain ⟨r, hr⟩ : ∃ r, rows[k]? = some r := ⟨_, List.getElem?_eq_getElem hlt⟩
          have HR := Lib.hid hr
          obtain ⟨g, o, d, rfl, hg, x0, hd⟩ := H4.out.cell hr
          have hcall := Is_any d r wr hd
          obtain ⟨Ad, cd, rfl, _, _⟩ := Ts.form hd
          have a0 : (0 : Int) ≤ (k : Int) := by omega
          have a1 : (k : Int) < (rows.length : Int) := by omega
          clear hr hd
          by_cases hi : IsT r
          · rw [isB_true hi] at hcall
            have HI := Lib.hid hi
            clear hi
            go_wp2_with fail
            refine hcall.mono ?_
            rintro e w5 ⟨rfl, hb5⟩
            have HB5 := Lib.hid (HN.out.1.trans (hb5.mono HN.out.1.size))
            clear hb5 hcall
            go_wp2_with fail
            go_roundg gk1
            case measure => omega
            case rel => exact ⟨k + 1, by omega, by go_num, Lib.hid ⟨HB5.out, all_take_isT HN.out.2 HR.out HI.out⟩⟩
          · rw [isB_false hi] at hcall
            obtain ⟨rfl, hx⟩ : err = code 1 ∧ nx = 0 := by
              rcases HP.out with ⟨_, hI, _⟩ | ⟨h1, _, A', c', e⟩ | ⟨_, hI, _⟩
              · exact absurd (hI r (List.mem_of_getElem? HR.out)) hi
              · injection e with _ e2 _
                exact ⟨h1, e2⟩
              · exact absurd (hI r (List.mem_of_getElem? HR.out)) hi
            subst hx
            have eqc := fun u => eqCode u 1 1
            clear hi HP
            go_wp2_with fail
            refine hcall.mono ?_
            rintro e w5 ⟨rfl, hb5⟩
            have HB5 := Lib.hid (HB4.out.trans (hb5.mono HB4.out.size))
            clear hb5 hcall
            go_wp2_with fail
            go_ret
            exact ⟨rfl, HB5.out⟩
      · as_aux_lemma =>
          have hkn : k = rows.length := by omega
          subst hkn
          have hI := HN.out.2
          rw [List.take_length] at hI
          have HI := Lib.hid hI
          have hsp := spans10_any _ rows wr H4.out (by have := HF.out.2.1; omega) (fun r hr => by have := HF.out.1 r hr; omega)
          clear hI hlt
          go_wp2_with fail
          refine hsp.mono ?_
          rintro e w5 ⟨v5, rfl, hs5, hb5⟩
          have hgr := Group_any v5 (flatR rows) w5 hs5 (by have := HF.out.2.1; omega)
          have HB5 := Lib.hid (HB4.out.trans (hb5.mono HB4.out.size))
          have HB35 := Lib.hid (HN.out.1.trans (hb5.mono HN.out.1.size))
          obtain ⟨A5, c5, rfl, _, _⟩ := hs5.form
          clear hs5 hb5 hsp
          go_wp2_with fail
          refine hgr.mono ?_
          rintro e w6 ⟨v6, g, rfl, ht6, hg6, hb6⟩
          have HB6 := Lib.hid (HB5.out.trans (hb6.mono HB5.out.size))
          have HB36 := Lib.hid (HB35.out.trans (hb6.mono HB35.out.size))
          have HT6 : Hid (Ts w6 v6 g) := Lib.hid ht6
          have HG := Lib.hid hg6
          obtain ⟨A6, c6, rfl, hc61, hc62⟩ := Ts.form ht6
          clear ht6 hg6 hb6 hgr
          go_wp2_with fail
          go_loopg [10] g.length (fun gk iv wq => ∃ (j : Nat), j + gk = g.length ∧ iv = .int .i64 (j : Int) ∧ wq = w6 ∧ Hid (∀ t ∈ g.take j, t.sp.length ≤ 100))
          case atStart => exact ⟨0, by omega, rfl, rfl, Lib.hid fun t ht => by simp at ht⟩
          case round =>
            obtain ⟨j, hj, rfl, rfl, HS⟩ := hrel
            by_cases hjl : j < g.length
            · obtain ⟨gk1, hgk1⟩ : ∃ x, gk = x + 1 := ⟨gk - 1, by omega⟩
              obtain ⟨t, ht⟩ : ∃ t, g[j]? = some t := ⟨_, List.getElem?_eq_getElem hjl⟩
              have HTj := Lib.hid ht
              obtain ⟨q, o, d, rfl, hq, x0, x1, hd, _⟩ := Ts.cells HT6.out ht
              obtain ⟨Ad, cd, rfl, _, _⟩ := hd.form
              have a0 : (0 : Int) ≤ (j : Int) := by omega
              have a1 : (j : Int) < (g.length : Int) := by omega
              clear ht hd
              by_cases hbig : 100 < t.sp.length
              · obtain ⟨rfl, hx⟩ : err = code 3 ∧ nx = 0 := by
                  rcases HP.out with ⟨_, _, g', hg', hs', _⟩ | ⟨_, ⟨r, hr, hn⟩, _⟩ | ⟨h1, _, _, A', c', e⟩
                  · obtain rfl := hg'.one HG.out
                    have := hs' t (List.mem_of_getElem? HTj.out)
                    omega
                  · exact absurd (HI.out r hr) hn
                  · injection e with _ e2 _
                    exact ⟨h1, e2⟩
                subst hx
                have eqc := fun u => eqCode u 3 3
                clear HP
                go_wp2_with fail
                go_ret
                exact ⟨rfl, HB6.out⟩
              · have HS2 : Hid (∀ t ∈ g.take (j + 1), t.sp.length ≤ 100) := Lib.hid fun z hz => by
                  rw [take_snoc_at HTj.out] at hz
                  rcases List.mem_append.1 hz with h1 | h1
                  · exact HS.out z h1
                  · simp at h1
                    subst h1
                    omega
                go_wp2_with fail
                go_roundg gk1
                case measure => omega
                case rel => exact ⟨j + 1, by omega, by go_num, rfl, HS2⟩
            · have hjn : j = g.length := by omega
              subst hjn
              obtain ⟨rfl, HTx⟩ : err = .nilIface ∧ Hid (Ts w3 (.slice Ax nx cx) g) := by
                have hs := HS.out
                rw [List.take_length] at hs
                rcases HP.out with ⟨h1, _, g', hg', _, ht'⟩ | ⟨_, ⟨r, hr, hn⟩, _⟩ | ⟨_, _, ⟨g', hg', t, ht, hlt⟩, _⟩
                · obtain rfl := hg'.one HG.out
                  exact ⟨h1, Lib.hid ht'⟩
                · exact absurd (HI.out r hr) hn
                · obtain rfl := hg'.one HG.out
                  have := hs t ht
                  omega
              have hsame := Traces_same _ _ g wr (Ts.below HTx.out HB36.out) HT6.out
              clear HP
              go_wp2_with fail
              refine hsame.mono ?_
              rintro e w7 ⟨rfl, hb7⟩
              have HB7 := Lib.hid (HB6.out.trans (hb7.mono HB6.out.size))
              clear hsame hb7
              go_wp2_with fail
              go_ret
              exact ⟨rfl, HB7.out⟩

theorem rowsT : ElemT Try.prog 22 25 1 24 := ⟨Try.underlying22, by omega, by
  refine ⟨_, _, rfl, rfl, rfl, rfl, ?_⟩
  rfl⟩
theorem sls_upto {w : World} {A : Option Addr} {n c : Nat} {rows : List (List Tn)} (h : Sls TsV w (.slice A n c) rows) (m : Nat) (hm : m ≤ rows.length) :
    ∃ V, (∀ u, (Instr.slice 22 (.slice A n c) none (some (.int .i64 (m : Int))) none).run Try.prog u = .ok V u) ∧ Sls TsV w V (rows.take m) := by
  obtain ⟨xs, h1, h2⟩ := h
  have hn : n = xs.length := by
    obtain ⟨_, _, e, _⟩ := h1.form
    injection e
  obtain ⟨V, hV, hl⟩ := h1.cut_upto rowsT rfl m (by rw [hn, ← h2.len]; exact hm)
  exact ⟨V, hV, xs.take m, hl, h2.take m⟩
theorem sls_from {w : World} {A : Option Addr} {n c : Nat} {rows : List (List Tn)} (h : Sls TsV w (.slice A n c) rows) (m : Nat) (hm : m ≤ rows.length) :
    ∃ V, (∀ u, (Instr.slice 22 (.slice A n c) (some (.int .i64 (m : Int))) none none).run Try.prog u = .ok V u) ∧ Sls TsV w V (rows.drop m) := by
  obtain ⟨xs, h1, h2⟩ := h
  have hn : n = xs.length := by
    obtain ⟨_, _, e, _⟩ := h1.form
    injection e
  obtain ⟨V, hV, hl⟩ := h1.cut_from rowsT rfl m (by rw [hn, ← h2.len]; exact hm)
  exact ⟨V, hV, xs.drop m, hl, h2.drop m⟩
/-- rows of which each is one of the rows are merged without an error, where those are -/
theorem MergeP.part {w : World} {rows sub : List (List Tn)} {x err : Value} {g : List Tn} (h : MergeP w sub x err) (hI : ∀ r ∈ rows, IsT r) (hg : Grp (flatR rows) g) (hs : ∀ t ∈ g, t.sp.length ≤ 100) (hsub : ∀ r ∈ sub, r ∈ rows) : err = .nilIface ∧ ∃ a, Grp (flatR sub) a ∧ IsT a ∧ Ts w x a := by
  have hflat : ∀ s ∈ flatR sub, s ∈ flatR rows := fun s hs' => by
    obtain ⟨r, hr, hsr⟩ := mem_flatR.1 hs'
    exact mem_flatR.2 ⟨r, hsub r hr, hsr⟩
  rcases h with ⟨h1, _, a, ha, hal, hta⟩ | ⟨_, ⟨r, hr, hn⟩, _⟩ | ⟨_, _, ⟨a, ha, t, ht, hl⟩, _⟩
  · exact ⟨h1, a, ha, ha.isT (fun r hr => hI r (hsub r hr)) hal, hta⟩
  · exact absurd (hI r (hsub r hr)) hn
  · have := ha.small hg hflat hs t ht
    omega
theorem MergeP.form {w : World} {rows : List (List Tn)} {x err : Value} (h : MergeP w rows x err) : ∃ A n c, x = .slice A n c := by
  rcases h with ⟨_, _, g, _, _, ht⟩ | ⟨_, _, A', c', e⟩ | ⟨_, _, _, A', c', e⟩
  · obtain ⟨A', c', e, _⟩ := Ts.form ht
    exact ⟨_, _, _, e⟩
  · exact ⟨_, _, _, e⟩
  · exact ⟨_, _, _, e⟩
theorem MergeP.err {w : World} {rows : List (List Tn)} {x err : Value} (h : MergeP w rows x err) : (err = .nilIface ∧ (∀ r ∈ rows, IsT r) ∧ ∃ g, Grp (flatR rows) g ∧ (∀ t ∈ g, t.sp.length ≤ 100) ∧ Ts w x g) ∨ ∃ n, (n = 1 ∨ n = 3) ∧ err = code n := by
  rcases h with h | ⟨h1, _⟩ | ⟨h1, _⟩
  · exact .inl h
  · exact .inr ⟨1, .inl rfl, h1⟩
  · exact .inr ⟨3, .inr rfl, h1⟩
theorem flatR_take_le (rows : List (List Tn)) (m : Nat) : (flatR (rows.take m)).length ≤ (flatR rows).length ∧ (flatR (rows.drop m)).length ≤ (flatR rows).length ∧ flatR rows = flatR (rows.take m) ++ flatR (rows.drop m) := by
  have h1 : flatR rows = flatR (rows.take m) ++ flatR (rows.drop m) := by rw [← flatR_append, List.take_append_drop]
  have h2 := congrArg List.length h1
  rw [List.length_append] at h2
  exact ⟨by omega, by omega, h1⟩

set_option maxHeartbeats 3200000 in
theorem kwayParts_any (hM : MergeK) (v : Value) (rows : List (List Tn)) (n : Int) (w : World) (h : Sls TsV w v rows) (hl : ∀ r ∈ rows, r.length ≤ 140737488355328) :
    Calls Try.prog 5 #[v, .int .i64 n] w fun e w' => e = .returned (.bool true) ∧ Below w.heap.size w w' := by
  have H := Lib.hid h
  have HM : Hid MergeK := Lib.hid hM
  have HL := Lib.hid hl
  obtain ⟨A, c, rfl, hc1, hc2⟩ := h.form
  have hup := fun u => up10_any hM u
  clear h hM hl
  go_enter Try.func5, Try.ntmps5
  go_wp2_with fail
  refine (hup _).mono ?_
  rintro e w1 ⟨rfl, hb1⟩
  have HB1 := Lib.hid hb1
  have hsm := small_any _ rows w1 (sls_ts_below H.out hb1) HL.out
  have H1 := Lib.hid (sls_ts_below H.out hb1)
  clear hb1 hup
  generalize hse : smallB rows = sb at hsm
  have HSE := Lib.hid hse
  clear hse
  go_wp2_with fail
  refine hsm.mono ?_
  rintro e w2 ⟨rfl, rfl⟩
  clear hsm
  cases sb with
  | false =>
    go_wp2_with fail
    go_ret
    exact ⟨rfl, HB1.out⟩
  | true =>
    by_cases hn0 : n < 0
    · go_wp2_with fail
      go_ret
      exact ⟨rfl, HB1.out⟩
    by_cases hn1 : (rows.length : Int) < n
    · go_wp2_with fail
      go_ret
      exact ⟨rfl, HB1.out⟩
    obtain ⟨m, rfl⟩ : ∃ m : Nat, n = (m : Int) := ⟨n.toNat, by omega⟩
    have hmr : m ≤ rows.length := by omega
    obtain ⟨hf1, hf2, hf3, hf4⟩ := small_few HSE.out
    obtain ⟨ht1, ht2, ht3⟩ := flatR_take_le rows m
    obtain ⟨r1, hr1⟩ : ∃ r1, r1 = rows.take m := ⟨_, rfl⟩
    obtain ⟨r2, hr2⟩ : ∃ r2, r2 = rows.drop m := ⟨_, rfl⟩
    have HR12 : Hid (r1.length ≤ 8 ∧ r2.length ≤ 8 ∧ (∀ r ∈ r1, r ∈ rows) ∧ ∀ r ∈ r2, r ∈ rows) := Lib.hid (by
      subst hr1 hr2
      exact ⟨by rw [List.length_take]; omega, by rw [List.length_drop]; omega, fun r hr => List.mem_of_mem_take hr, fun r hr => List.mem_of_mem_drop hr⟩)
    have HE1 := Lib.hid hr1
    have HE2 := Lib.hid hr2
    rw [← hr1, ← hr2] at ht3
    rw [← hr1] at ht1
    rw [← hr2] at ht2
    clear hr1 hr2
    have hcall := HM.out H1.out (by omega) (fun r hr => by have := hf2 r hr; omega) (by omega) (fun s hs => by have := hf4 s hs; omega)
    have HF := Lib.hid (And.intro hf1 (And.intro hf2 (And.intro hf3 (And.intro hf4 (And.intro ht1 (And.intro ht2 ht3))))))
    clear hf1 hf2 hf3 hf4 ht1 ht2 ht3 hn0 hn1
    go_wp2_with fail
    refine hcall.mono ?_
    rintro e w3 ⟨x, err, rfl, hP, hb3⟩
    have HP := Lib.hid hP
    have HB3 : Hid (Below w.heap.size w w3) := Lib.hid (HB1.out.trans (hb3.mono HB1.out.size))
    have H3 := Lib.hid (sls_ts_below H1.out hb3)
    obtain ⟨Ax, nx, cx, rfl⟩ := hP.form
    obtain ⟨V, hsV, hV⟩ := sls_upto H3.out m hmr
    rw [← HE1.out] at hV
    have hcall2 := HM.out hV (by have := HR12.out.1; omega) (fun r hr => by have := HF.out.2.1 r (HR12.out.2.2.1 r hr); omega) (by have := HF.out.2.2.1; have := HF.out.2.2.2.2.1; omega) (fun s hs => by
      have := HF.out.2.2.2.1 s (by rw [HF.out.2.2.2.2.2.2]; exact List.mem_append_left _ hs)
      omega)
    obtain ⟨AV, cV, rfl, _, _⟩ := hV.form
    clear hcall hP hb3 hV
    go_wp2_with fail
    refine hcall2.mono ?_
    rintro e w4 ⟨xa, erra, rfl, hPa, hb4⟩
    have HPa := Lib.hid hPa
    have HB34 := Lib.hid hb4
    obtain ⟨Aa, na, ca, rfl⟩ := hPa.form
    obtain ⟨U, hsU, hU⟩ := sls_from (sls_ts_below H3.out hb4) m hmr
    rw [← HE2.out] at hU
    have hcall3 := HM.out hU (by have := HR12.out.2.1; omega) (fun r hr => by have := HF.out.2.1 r (HR12.out.2.2.2 r hr); omega) (by have := HF.out.2.2.1; have := HF.out.2.2.2.2.2.1; omega) (fun s hs => by
      have := HF.out.2.2.2.1 s (by rw [HF.out.2.2.2.2.2.2]; exact List.mem_append_right _ hs)
      omega)
    obtain ⟨AU, cU, rfl, _, _⟩ := hU.form
    clear hcall2 hPa hb4 hU hsV
    go_wp2_with fail
    refine hcall3.mono ?_
    rintro e w5 ⟨xb, errb, rfl, hPb, hb5⟩
    have HPb := Lib.hid hPb
    have HB45 := Lib.hid hb5
    have HB35 := Lib.hid (HB34.out.trans (hb5.mono HB34.out.size))
    have HB5 : Hid (Below w.heap.size w w5) := Lib.hid (HB3.out.trans (HB35.out.mono HB3.out.size))
    obtain ⟨Ab, nb, cb, rfl⟩ := hPb.form
    clear hcall3 hPb hb5 hsU
    rcases HP.out.err with ⟨rfl, hI, g, hg, hgl, htx⟩ | ⟨k, hk, rfl⟩
    · obtain ⟨rfl, a, ha, hIa, hta⟩ := HPa.out.part hI hg hgl HR12.out.2.2.1
      obtain ⟨rfl, b, hb, hIb, htb⟩ := HPb.out.part hI hg hgl HR12.out.2.2.2
      have hlit := lit_rows2 (w := w5) rfl (Ts.below hta HB45.out) htb
      have hbl : Below w5.heap.size w5 (w5.alloc (.cells #[.slice Aa na ca, .slice Ab nb cb] 25)) := (Below.refl _ _).alloc (Nat.le_refl _) _
      have hgr := HF.out.2.2.2.2.2.2
      rw [hgr] at hg
      have hsa : ∀ s ∈ flatR [a, b], s ∈ flatR rows := fun s hs => by
        rw [flatR_two] at hs
        rw [hgr]
        rcases List.mem_append.1 hs with h1 | h1
        · exact List.mem_append_left _ (ha.flat_sub s h1)
        · exact List.mem_append_right _ (hb.flat_sub s h1)
      have hla : ∀ {l : List Sn} {r : List Tn}, Grp l r → (flatT r).length ≤ l.length := fun {l r} h => by
        obtain ⟨q, hq⟩ : ∃ q, q = flatT r := ⟨_, rfl⟩
        have hn := Grp.flat_nodup h.up h.sp
        have : ∀ {x y : List Sn}, x.Nodup → (∀ z ∈ x, z ∈ y) → x.length ≤ y.length := fun {x y} hx hs => by
          classical
          exact rows_nodup_le hx hs
        exact this hn h.flat_sub
      have hcall4 := HM.out hlit (by simp) (fun r hr => by
        simp at hr
        have e1 := HF.out.2.2.1
        have e2 := HF.out.2.2.2.2.1
        have e3 := HF.out.2.2.2.2.2.1
        rcases hr with rfl | rfl
        · have := ha.len
          omega
        · have := hb.len
          omega) (by
        rw [flatR_two, List.length_append]
        have e1 := HF.out.2.2.1
        have e2 := HF.out.2.2.2.2.1
        have e3 := HF.out.2.2.2.2.2.1
        have := hla ha
        have := hla hb
        omega) (fun s hs => by have := HF.out.2.2.2.1 s (hsa s hs); omega)
      have HBL := Lib.hid hbl
      have HAll := Lib.hid (And.intro ha (And.intro hb (And.intro hg (And.intro hgl (And.intro hIa hIb)))))
      have HTX := Lib.hid (Ts.below htx HB35.out)
      clear hI hg hgl htx ha hIa hta hb hIb htb hlit hbl hgr hsa hla HP HPa HPb
      go_wp2_with fail
      refine hcall4.mono ?_
      rintro e w6 ⟨y, erry, rfl, hPy, hb6⟩
      have HB6 : Hid (Below w5.heap.size w5 w6) := Lib.hid (HBL.out.trans (hb6.mono HBL.out.size))
      obtain ⟨Ay, ny, cy, rfl⟩ := hPy.form
      obtain ⟨ha, hb, hg, hgl, hIa, hIb⟩ := HAll.out
      obtain ⟨rfl, HTY⟩ : erry = .nilIface ∧ Hid (Ts w6 (.slice Ay ny cy) g) := by
        rcases hPy with ⟨h1, _, z, hz, _, htz⟩ | ⟨_, ⟨r, hr, hn⟩, _⟩ | ⟨_, _, ⟨z, hz, t, ht, hlt⟩, _⟩
        · rw [flatR_two] at hz
          obtain rfl := Grp.parts ha hb hg hz
          exact ⟨h1, Lib.hid htz⟩
        · simp at hr
          rcases hr with rfl | rfl
          · exact absurd hIa hn
          · exact absurd hIb hn
        · rw [flatR_two] at hz
          obtain rfl := Grp.parts ha hb hg hz
          have := hgl t ht
          omega
      have hsame := Traces_same _ _ g w6 (Ts.below HTX.out HB6.out) HTY.out
      have HBw6 : Hid (Below w.heap.size w w6) := Lib.hid (HB5.out.trans (HB6.out.mono HB5.out.size))
      clear hPy hb6 ha hb hg hgl hIa hIb hcall4
      go_wp2_with fail
      refine hsame.mono ?_
      rintro e w7 ⟨rfl, hb7⟩
      have HB7 := Lib.hid (HBw6.out.trans (hb7.mono HBw6.out.size))
      clear hsame hb7
      go_wp2_with fail
      go_ret
      exact ⟨rfl, HB7.out⟩
    · clear HP HPa HPb
      rcases hk with rfl | rfl
      · go_wp2_with fail
        go_ret
        exact ⟨rfl, HB5.out⟩
      · go_wp2_with fail
        go_ret
        exact ⟨rfl, HB5.out⟩
end Go.Proofs.Ytpanpebllapbcaa

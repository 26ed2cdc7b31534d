/-
  tankardlaw05.PageBack, walked: it returns true at every list of at most 2^47 traces, and every number and byte; nothing that was there has turned.
-/
import Derived.Test.YtcpbikogccdknaaPgH
namespace Go.Proofs.Ytcpbikogccdknaa
open Go.RowKit Go.Maps
set_option maxRecDepth 100000

theorem OwnT.nil (w0 w : World) (base : Nat) : OwnT w0 w base (.slice none 0 0) [] := ⟨[], OwnL.nil _ _ _ _, Two.nil⟩
theorem pg_BV_set (l : List UInt8) (i : Nat) (b : UInt8) : (BV l).set i (.int .u8 (b.toNat : Int)) = BV (l.set i b) := by simp [BV, List.map_set]
/-- one byte of a slice of the call's own is stored -/
theorem Own.put_ {w : World} {base : Nat} {e : TypeId} {l : List UInt8} {g n cap : Nat} (hn : n = l.length) (h : Own w base e (.slice (some ⟨g, 0, none⟩) n cap) l) (i : Nat) (b : UInt8) (u : Value) (hu : u = .int .u8 (b.toNat : Int)) :
    Own (w.setCell ⟨g, i, none⟩ u) base e (.slice (some ⟨g, 0, none⟩) n cap) (l.set i b) ∧ w.grownBy (w.setCell ⟨g, i, none⟩ u) (some g) := by
  subst hn
  subst hu
  have h2 := World.ownsRow.stored h i (.int .u8 (b.toNat : Int))
  rw [pg_BV_set] at h2
  refine ⟨?_, h2.2⟩
  unfold Own
  rw [List.length_set]
  exact h2.1
theorem back_pure (l : List UInt8) (i : Nat) (x : UInt8) (h : i < l.length + 4) (hx : x ≠ 0) :
    ∃ (y : UInt8) (m : List UInt8), (sealedOf l)[i]? = some y ∧ m = (sealedOf l).set i (y ^^^ x) ∧ m.length = l.length + 4 ∧ tailOf m ≠ crcOf (bodyOf m) := by
  have hs := sealedOf_length l
  have hi : i < (sealedOf l).length := by omega
  exact ⟨(sealedOf l)[i], _, List.getElem?_eq_getElem hi, rfl, by simp [hs], altered l i x hi hx⟩

set_option maxHeartbeats 6400000 in
theorem pageBack_any (v : Value) (l : List Tn) (most at_ x : Int) (w : World) (h : Ts w v l) (hll : l.length ≤ 140737488355328) (hx0 : 0 ≤ x) (hx1 : x ≤ 255) :
    Calls Try.prog 6 #[v, .int .i64 most, .int .i64 at_, .int .u8 x] w fun e w' => e = .returned (.bool true) ∧ Below w.heap.size w w' := by
  have H := Lib.hid h
  have eqc := eqCode
  have neq_ := neCode
  obtain ⟨A, c, rfl, hc1, hc2⟩ := h.form
  clear h
  go_enter Try.func6, Try.ntmps6
  go_wp2_with fail
  refine (up5_any _).mono ?_
  rintro e w1 ⟨rfl, hb1⟩
  go_wp2_with fail
  refine (FewTraces_any _ l 200 w1 (H.out.below hb1) hll).mono ?_
  rintro e w2 ⟨rfl, rfl⟩
  cases hf : fewT l 200 with
  | false =>
    clear hf
    go_wp2_with fail
    go_ret
    exact ⟨rfl, hb1⟩
  | true =>
    obtain ⟨hl1, _, _⟩ := pfew (n := 200) hf
    clear hf
    go_wp2_with fail
    refine (pput_any _ l _ (H.out.below hb1)).mono ?_
    rintro e w2 ⟨bv, er, rfl, hPP, hb2⟩
    have hB2 := hb1.trans (hb2.mono hb1.size)
    cases hp : pgB l with
    | false =>
      obtain ⟨rfl, rfl⟩ := hPP.no hp
      clear hPP hp
      go_wp2_with fail
      refine (pcut_any _ l most _ (H.out.below hB2) (by omega)).mono ?_
      rintro e wc ⟨pv, ec, rfl, hP, hbc⟩
      have hBc := hB2.trans (hbc.mono hB2.size)
      by_cases hm : IsT l ∧ 64 ≤ most ∧ most ≤ 8192
      · obtain ⟨hIs, hm1, hm2⟩ := hm
        obtain ⟨rfl, hPs⟩ := hP.yes hIs hm1 hm2
        have HPs := Lib.hid hPs
        have HPa := Lib.hid (cutL_parts most l.length l hIs)
        have HFl := Lib.hid (cutL_flat most l.length l (Nat.le_refl _))
        obtain ⟨Ax, cx, hxv, hx1, hx2⟩ := hPs.form
        subst hxv
        clear hP hPs hIs hbc
        generalize cutL most l.length l = C at *
        go_wp2_with fail
        go_loopw [19, 20] (fun av iv wr => ∃ k : Nat, k ≤ C.length ∧ iv = .int .i64 (k : Int) ∧ OwnT wc wr wc.heap.size av (C.take k).flatten ∧ Below wc.heap.size wc wr) (fun _ iv _ => C.length - (intOf iv).toNat)
        case atStart => exact ⟨0, Nat.zero_le _, rfl, by simpa using OwnT.nil wc wc wc.heap.size, Below.refl _ _⟩
        case round =>
          obtain ⟨k, hk, rfl, hO, hB⟩ := hrel
          by_cases hlt : k < C.length
          · obtain ⟨p, hkp⟩ : ∃ p, C[k]? = some p := ⟨_, List.getElem?_eq_getElem hlt⟩
            obtain ⟨g, o, d, rfl, hg, x0, hd⟩ := HPs.out.cells hkp
            have c0 := (hB.cell (p := ⟨g, o + k, none⟩) hg).trans x0
            have r0 : ∀ u, Below wc.heap.size wc u → u.cell? ⟨g, o + k, none⟩ = some d := fun u hu => (hu.cell hg).trans x0
            have hgr := Nat.lt_of_lt_of_le hg hB.size
            obtain ⟨h1, h2, h3, h4⟩ := HPa.out p (List.mem_of_getElem? hkp)
            have HPP : Hid (pgB p = true) := Lib.hid (pgB_iff.2 ⟨h2, h3⟩)
            have HTK := Lib.hid (take_snoc_at hkp)
            have HFK : Hid ((C.take k).flatten.length + p.length ≤ 100) := Lib.hid (by
              have e1 : C = C.take k ++ ([p] ++ C.drop (k + 1)) := by rw [← List.append_assoc, ← take_snoc_at hkp, List.take_append_drop]
              have e2 := congrArg List.length HFl.out
              rw [e1, List.flatten_append, List.length_append, List.flatten_append, List.length_append] at e2
              simp only [List.flatten_cons, List.flatten_nil, List.append_nil] at e2
              omega)
            have HD := Lib.hid hd
            obtain ⟨Ad, cd, hdv, _⟩ := hd.form
            subst hdv
            have HO := Lib.hid hO
            have HH4 := Lib.hid h4
            clear hd hkp x0 hO h3 h4
            go_wp2_with fail
            refine (pput_any _ p _ (HD.out.below hB)).mono ?_
            rintro e wq ⟨qv, eq_, rfl, hQ, hbq⟩
            obtain ⟨rfl, hownq⟩ := hQ.yes HPP.out
            have hBq := hB.trans (hbq.mono hB.size)
            have HOq := Lib.hid (HO.out.below hbq)
            have c1 := r0 _ hBq
            obtain ⟨Aq, cq, hqv, _⟩ := hownq.form
            subst hqv
            obtain ⟨N, hN⟩ : ∃ N, N = (pgOf p).length := ⟨_, rfl⟩
            rw [← hN]
            have hNl : N ≤ 1000000 := by
              have h5 := one_le (l := p) (pgB_iff.1 HPP.out).2 p.length
              rw [List.take_length] at h5
              rw [hN, pgOf_length]
              omega
            have HN : Hid (p.length = 1 ∨ (N : Int) ≤ most) := Lib.hid (by rw [hN]; exact HH4.out)
            have hp0 : ((p.length : Int) == 0) = false := beq_eq_false_iff_ne.2 (by omega)
            obtain ⟨ys, hys, hT⟩ := HD.out
            have HYS := Lib.hid (hys.below hBq)
            have HYT := Lib.hid hT
            clear hQ hownq hN hbq hys hT c0
            by_cases hbig : most < (N : Int)
            · have hp1 : ¬ (1 < (p.length : Int)) := by have := HN.out; omega
              go_wp2_with (at_builtin; refine wpList_append_ownT _ rfl _ _ rfl rfl HOq.out rfl HYS.out HYT.out (by have := HFK.out; omega) hBq.size ?_)
              intro av2 wa hOa hga
              have HOA : Hid (OwnT wc wa wc.heap.size av2 (C.take (k + 1)).flatten) := Lib.hid (by rw [HTK.out, List.flatten_append]; simpa using hOa)
              have hBa := hBq.grown hga hBq.size (fun q hq => (HOq.out.lt q hq).1)
              clear hOa hga
              go_wp2_with fail
              exact ⟨⟨k + 1, by omega, by go_num, HOA.out, hBa⟩, by simp [intOf]; omega⟩
            · go_wp2_with (at_builtin; refine wpList_append_ownT _ rfl _ _ rfl rfl HOq.out rfl HYS.out HYT.out (by have := HFK.out; omega) hBq.size ?_)
              intro av2 wa hOa hga
              have HOA : Hid (OwnT wc wa wc.heap.size av2 (C.take (k + 1)).flatten) := Lib.hid (by rw [HTK.out, List.flatten_append]; simpa using hOa)
              have hBa := hBq.grown hga hBq.size (fun q hq => (HOq.out.lt q hq).1)
              clear hOa hga
              go_wp2_with fail
              exact ⟨⟨k + 1, by omega, by go_num, HOA.out, hBa⟩, by simp [intOf]; omega⟩
          · have hkn : k = C.length := by omega
            subst hkn
            rw [List.take_length, HFl.out] at hO
            have HT := Lib.hid (hO.ts hB)
            have hBr := hBc.trans (hB.mono hBc.size)
            clear hO
            go_wp2_with fail
            refine (Traces_same _ _ l _ HT.out (H.out.below hBr)).mono ?_
            rintro e we ⟨rfl, hbe⟩
            go_wp2_with fail
            go_ret
            exact ⟨rfl, hBr.trans (hbe.mono hBr.size)⟩
      · obtain ⟨rfl, rfl⟩ := hP.no hm
        clear hP hm
        go_wp2_with fail
        go_ret
        exact ⟨rfl, hBc⟩
    | true =>
      obtain ⟨rfl, hown⟩ := hPP.yes hp
      have HV := Lib.hid (H.out.valP hp)
      have hNb : (pgOf l).length ≤ 1000000 := by
        have h5 := one_le (l := l) HV.out.is l.length
        have h6 := HV.out.most
        rw [List.take_length] at h5
        rw [pgOf_length]
        omega
      have hN6 : 6 ≤ (pgOf l).length := by rw [pgOf_length]; omega
      obtain ⟨g, cap, hv2, hg1, hg2⟩ := World.ownsRow.form hown (by omega)
      obtain ⟨N, hN⟩ : ∃ N, N = (pgOf l).length := ⟨_, rfl⟩
      rw [← hN] at hv2 hNb hN6
      subst hv2
      have HN := Lib.hid hN
      have HOw := Lib.hid hown
      clear hPP hp hown hN
      go_wp2_with fail
      refine (pget_any _ (pgOf l) _ HOw.out.bs (by have := HN.out; omega)).mono ?_
      rintro e w3 ⟨gv, ge, rfl, hG, hb3⟩
      obtain ⟨rfl, hTg⟩ := hG.yes l (by have := HN.out; omega) (tail_sealed (pgBody l)) HV.out (by rw [pgOf, body_sealed])
      have hB3 := hB2.trans (hb3.mono hB2.size)
      have HTg := Lib.hid hTg
      obtain ⟨Ag, cg, hgv, _⟩ := hTg.form
      subst hgv
      have HOw3 := Lib.hid (HOw.out.below hb3)
      clear hG hTg hb3
      go_wp2_with fail
      refine (Traces_same _ _ l _ HTg.out (H.out.below hB3)).mono ?_
      rintro e w4 ⟨rfl, hb4⟩
      have hB4 := hB3.trans (hb4.mono hB3.size)
      have HOw4 := Lib.hid (HOw3.out.below hb4)
      clear hb4
      by_cases hk : at_ < 0
      · skip
        go_wp2_with fail
        refine (pcut_any _ l most _ (H.out.below hB4) (by omega)).mono ?_
        rintro e wc ⟨pv, ec, rfl, hP, hbc⟩
        have hBc := hB4.trans (hbc.mono hB4.size)
        by_cases hm : IsT l ∧ 64 ≤ most ∧ most ≤ 8192
        · obtain ⟨hIs, hm1, hm2⟩ := hm
          obtain ⟨rfl, hPs⟩ := hP.yes hIs hm1 hm2
          have HPs := Lib.hid hPs
          have HPa := Lib.hid (cutL_parts most l.length l hIs)
          have HFl := Lib.hid (cutL_flat most l.length l (Nat.le_refl _))
          obtain ⟨Ax, cx, hxv, hx1, hx2⟩ := hPs.form
          subst hxv
          clear hP hPs hIs hbc
          generalize cutL most l.length l = C at *
          go_wp2_with fail
          go_loopw [19, 20] (fun av iv wr => ∃ k : Nat, k ≤ C.length ∧ iv = .int .i64 (k : Int) ∧ OwnT wc wr wc.heap.size av (C.take k).flatten ∧ Below wc.heap.size wc wr) (fun _ iv _ => C.length - (intOf iv).toNat)
          case atStart => exact ⟨0, Nat.zero_le _, rfl, by simpa using OwnT.nil wc wc wc.heap.size, Below.refl _ _⟩
          case round =>
            obtain ⟨k, hk, rfl, hO, hB⟩ := hrel
            by_cases hlt : k < C.length
            · obtain ⟨p, hkp⟩ : ∃ p, C[k]? = some p := ⟨_, List.getElem?_eq_getElem hlt⟩
              obtain ⟨g, o, d, rfl, hg, x0, hd⟩ := HPs.out.cells hkp
              have c0 := (hB.cell (p := ⟨g, o + k, none⟩) hg).trans x0
              have r0 : ∀ u, Below wc.heap.size wc u → u.cell? ⟨g, o + k, none⟩ = some d := fun u hu => (hu.cell hg).trans x0
              have hgr := Nat.lt_of_lt_of_le hg hB.size
              obtain ⟨h1, h2, h3, h4⟩ := HPa.out p (List.mem_of_getElem? hkp)
              have HPP : Hid (pgB p = true) := Lib.hid (pgB_iff.2 ⟨h2, h3⟩)
              have HTK := Lib.hid (take_snoc_at hkp)
              have HFK : Hid ((C.take k).flatten.length + p.length ≤ 100) := Lib.hid (by
                have e1 : C = C.take k ++ ([p] ++ C.drop (k + 1)) := by rw [← List.append_assoc, ← take_snoc_at hkp, List.take_append_drop]
                have e2 := congrArg List.length HFl.out
                rw [e1, List.flatten_append, List.length_append, List.flatten_append, List.length_append] at e2
                simp only [List.flatten_cons, List.flatten_nil, List.append_nil] at e2
                omega)
              have HD := Lib.hid hd
              obtain ⟨Ad, cd, hdv, _⟩ := hd.form
              subst hdv
              have HO := Lib.hid hO
              have HH4 := Lib.hid h4
              clear hd hkp x0 hO h3 h4
              go_wp2_with fail
              refine (pput_any _ p _ (HD.out.below hB)).mono ?_
              rintro e wq ⟨qv, eq_, rfl, hQ, hbq⟩
              obtain ⟨rfl, hownq⟩ := hQ.yes HPP.out
              have hBq := hB.trans (hbq.mono hB.size)
              have HOq := Lib.hid (HO.out.below hbq)
              have c1 := r0 _ hBq
              obtain ⟨Aq, cq, hqv, _⟩ := hownq.form
              subst hqv
              obtain ⟨N, hN⟩ : ∃ N, N = (pgOf p).length := ⟨_, rfl⟩
              rw [← hN]
              have hNl : N ≤ 1000000 := by
                have h5 := one_le (l := p) (pgB_iff.1 HPP.out).2 p.length
                rw [List.take_length] at h5
                rw [hN, pgOf_length]
                omega
              have HN : Hid (p.length = 1 ∨ (N : Int) ≤ most) := Lib.hid (by rw [hN]; exact HH4.out)
              have hp0 : ((p.length : Int) == 0) = false := beq_eq_false_iff_ne.2 (by omega)
              obtain ⟨ys, hys, hT⟩ := HD.out
              have HYS := Lib.hid (hys.below hBq)
              have HYT := Lib.hid hT
              clear hQ hownq hN hbq hys hT c0
              by_cases hbig : most < (N : Int)
              · have hp1 : ¬ (1 < (p.length : Int)) := by have := HN.out; omega
                go_wp2_with (at_builtin; refine wpList_append_ownT _ rfl _ _ rfl rfl HOq.out rfl HYS.out HYT.out (by have := HFK.out; omega) hBq.size ?_)
                intro av2 wa hOa hga
                have HOA : Hid (OwnT wc wa wc.heap.size av2 (C.take (k + 1)).flatten) := Lib.hid (by rw [HTK.out, List.flatten_append]; simpa using hOa)
                have hBa := hBq.grown hga hBq.size (fun q hq => (HOq.out.lt q hq).1)
                clear hOa hga
                go_wp2_with fail
                exact ⟨⟨k + 1, by omega, by go_num, HOA.out, hBa⟩, by simp [intOf]; omega⟩
              · go_wp2_with (at_builtin; refine wpList_append_ownT _ rfl _ _ rfl rfl HOq.out rfl HYS.out HYT.out (by have := HFK.out; omega) hBq.size ?_)
                intro av2 wa hOa hga
                have HOA : Hid (OwnT wc wa wc.heap.size av2 (C.take (k + 1)).flatten) := Lib.hid (by rw [HTK.out, List.flatten_append]; simpa using hOa)
                have hBa := hBq.grown hga hBq.size (fun q hq => (HOq.out.lt q hq).1)
                clear hOa hga
                go_wp2_with fail
                exact ⟨⟨k + 1, by omega, by go_num, HOA.out, hBa⟩, by simp [intOf]; omega⟩
            · have hkn : k = C.length := by omega
              subst hkn
              rw [List.take_length, HFl.out] at hO
              have HT := Lib.hid (hO.ts hB)
              have hBr := hBc.trans (hB.mono hBc.size)
              clear hO
              go_wp2_with fail
              refine (Traces_same _ _ l _ HT.out (H.out.below hBr)).mono ?_
              rintro e we ⟨rfl, hbe⟩
              go_wp2_with fail
              go_ret
              exact ⟨rfl, hBr.trans (hbe.mono hBr.size)⟩
        · obtain ⟨rfl, rfl⟩ := hP.no hm
          clear hP hm
          go_wp2_with fail
          go_ret
          exact ⟨rfl, hBc⟩
      by_cases hk2 : (N : Int) ≤ at_
      · skip
        go_wp2_with fail
        refine (pcut_any _ l most _ (H.out.below hB4) (by omega)).mono ?_
        rintro e wc ⟨pv, ec, rfl, hP, hbc⟩
        have hBc := hB4.trans (hbc.mono hB4.size)
        by_cases hm : IsT l ∧ 64 ≤ most ∧ most ≤ 8192
        · obtain ⟨hIs, hm1, hm2⟩ := hm
          obtain ⟨rfl, hPs⟩ := hP.yes hIs hm1 hm2
          have HPs := Lib.hid hPs
          have HPa := Lib.hid (cutL_parts most l.length l hIs)
          have HFl := Lib.hid (cutL_flat most l.length l (Nat.le_refl _))
          obtain ⟨Ax, cx, hxv, hx1, hx2⟩ := hPs.form
          subst hxv
          clear hP hPs hIs hbc
          generalize cutL most l.length l = C at *
          go_wp2_with fail
          go_loopw [19, 20] (fun av iv wr => ∃ k : Nat, k ≤ C.length ∧ iv = .int .i64 (k : Int) ∧ OwnT wc wr wc.heap.size av (C.take k).flatten ∧ Below wc.heap.size wc wr) (fun _ iv _ => C.length - (intOf iv).toNat)
          case atStart => exact ⟨0, Nat.zero_le _, rfl, by simpa using OwnT.nil wc wc wc.heap.size, Below.refl _ _⟩
          case round =>
            obtain ⟨k, hk, rfl, hO, hB⟩ := hrel
            by_cases hlt : k < C.length
            · obtain ⟨p, hkp⟩ : ∃ p, C[k]? = some p := ⟨_, List.getElem?_eq_getElem hlt⟩
              obtain ⟨g, o, d, rfl, hg, x0, hd⟩ := HPs.out.cells hkp
              have c0 := (hB.cell (p := ⟨g, o + k, none⟩) hg).trans x0
              have r0 : ∀ u, Below wc.heap.size wc u → u.cell? ⟨g, o + k, none⟩ = some d := fun u hu => (hu.cell hg).trans x0
              have hgr := Nat.lt_of_lt_of_le hg hB.size
              obtain ⟨h1, h2, h3, h4⟩ := HPa.out p (List.mem_of_getElem? hkp)
              have HPP : Hid (pgB p = true) := Lib.hid (pgB_iff.2 ⟨h2, h3⟩)
              have HTK := Lib.hid (take_snoc_at hkp)
              have HFK : Hid ((C.take k).flatten.length + p.length ≤ 100) := Lib.hid (by
                have e1 : C = C.take k ++ ([p] ++ C.drop (k + 1)) := by rw [← List.append_assoc, ← take_snoc_at hkp, List.take_append_drop]
                have e2 := congrArg List.length HFl.out
                rw [e1, List.flatten_append, List.length_append, List.flatten_append, List.length_append] at e2
                simp only [List.flatten_cons, List.flatten_nil, List.append_nil] at e2
                omega)
              have HD := Lib.hid hd
              obtain ⟨Ad, cd, hdv, _⟩ := hd.form
              subst hdv
              have HO := Lib.hid hO
              have HH4 := Lib.hid h4
              clear hd hkp x0 hO h3 h4
              go_wp2_with fail
              refine (pput_any _ p _ (HD.out.below hB)).mono ?_
              rintro e wq ⟨qv, eq_, rfl, hQ, hbq⟩
              obtain ⟨rfl, hownq⟩ := hQ.yes HPP.out
              have hBq := hB.trans (hbq.mono hB.size)
              have HOq := Lib.hid (HO.out.below hbq)
              have c1 := r0 _ hBq
              obtain ⟨Aq, cq, hqv, _⟩ := hownq.form
              subst hqv
              obtain ⟨N, hN⟩ : ∃ N, N = (pgOf p).length := ⟨_, rfl⟩
              rw [← hN]
              have hNl : N ≤ 1000000 := by
                have h5 := one_le (l := p) (pgB_iff.1 HPP.out).2 p.length
                rw [List.take_length] at h5
                rw [hN, pgOf_length]
                omega
              have HN : Hid (p.length = 1 ∨ (N : Int) ≤ most) := Lib.hid (by rw [hN]; exact HH4.out)
              have hp0 : ((p.length : Int) == 0) = false := beq_eq_false_iff_ne.2 (by omega)
              obtain ⟨ys, hys, hT⟩ := HD.out
              have HYS := Lib.hid (hys.below hBq)
              have HYT := Lib.hid hT
              clear hQ hownq hN hbq hys hT c0
              by_cases hbig : most < (N : Int)
              · have hp1 : ¬ (1 < (p.length : Int)) := by have := HN.out; omega
                go_wp2_with (at_builtin; refine wpList_append_ownT _ rfl _ _ rfl rfl HOq.out rfl HYS.out HYT.out (by have := HFK.out; omega) hBq.size ?_)
                intro av2 wa hOa hga
                have HOA : Hid (OwnT wc wa wc.heap.size av2 (C.take (k + 1)).flatten) := Lib.hid (by rw [HTK.out, List.flatten_append]; simpa using hOa)
                have hBa := hBq.grown hga hBq.size (fun q hq => (HOq.out.lt q hq).1)
                clear hOa hga
                go_wp2_with fail
                exact ⟨⟨k + 1, by omega, by go_num, HOA.out, hBa⟩, by simp [intOf]; omega⟩
              · go_wp2_with (at_builtin; refine wpList_append_ownT _ rfl _ _ rfl rfl HOq.out rfl HYS.out HYT.out (by have := HFK.out; omega) hBq.size ?_)
                intro av2 wa hOa hga
                have HOA : Hid (OwnT wc wa wc.heap.size av2 (C.take (k + 1)).flatten) := Lib.hid (by rw [HTK.out, List.flatten_append]; simpa using hOa)
                have hBa := hBq.grown hga hBq.size (fun q hq => (HOq.out.lt q hq).1)
                clear hOa hga
                go_wp2_with fail
                exact ⟨⟨k + 1, by omega, by go_num, HOA.out, hBa⟩, by simp [intOf]; omega⟩
            · have hkn : k = C.length := by omega
              subst hkn
              rw [List.take_length, HFl.out] at hO
              have HT := Lib.hid (hO.ts hB)
              have hBr := hBc.trans (hB.mono hBc.size)
              clear hO
              go_wp2_with fail
              refine (Traces_same _ _ l _ HT.out (H.out.below hBr)).mono ?_
              rintro e we ⟨rfl, hbe⟩
              go_wp2_with fail
              go_ret
              exact ⟨rfl, hBr.trans (hbe.mono hBr.size)⟩
        · obtain ⟨rfl, rfl⟩ := hP.no hm
          clear hP hm
          go_wp2_with fail
          go_ret
          exact ⟨rfl, hBc⟩
      by_cases hx : x = 0
      · subst hx
        go_wp2_with fail
        refine (pcut_any _ l most _ (H.out.below hB4) (by omega)).mono ?_
        rintro e wc ⟨pv, ec, rfl, hP, hbc⟩
        have hBc := hB4.trans (hbc.mono hB4.size)
        by_cases hm : IsT l ∧ 64 ≤ most ∧ most ≤ 8192
        · obtain ⟨hIs, hm1, hm2⟩ := hm
          obtain ⟨rfl, hPs⟩ := hP.yes hIs hm1 hm2
          have HPs := Lib.hid hPs
          have HPa := Lib.hid (cutL_parts most l.length l hIs)
          have HFl := Lib.hid (cutL_flat most l.length l (Nat.le_refl _))
          obtain ⟨Ax, cx, hxv, hx1, hx2⟩ := hPs.form
          subst hxv
          clear hP hPs hIs hbc
          generalize cutL most l.length l = C at *
          go_wp2_with fail
          go_loopw [19, 20] (fun av iv wr => ∃ k : Nat, k ≤ C.length ∧ iv = .int .i64 (k : Int) ∧ OwnT wc wr wc.heap.size av (C.take k).flatten ∧ Below wc.heap.size wc wr) (fun _ iv _ => C.length - (intOf iv).toNat)
          case atStart => exact ⟨0, Nat.zero_le _, rfl, by simpa using OwnT.nil wc wc wc.heap.size, Below.refl _ _⟩
          case round =>
            obtain ⟨k, hk, rfl, hO, hB⟩ := hrel
            by_cases hlt : k < C.length
            · obtain ⟨p, hkp⟩ : ∃ p, C[k]? = some p := ⟨_, List.getElem?_eq_getElem hlt⟩
              obtain ⟨g, o, d, rfl, hg, x0, hd⟩ := HPs.out.cells hkp
              have c0 := (hB.cell (p := ⟨g, o + k, none⟩) hg).trans x0
              have r0 : ∀ u, Below wc.heap.size wc u → u.cell? ⟨g, o + k, none⟩ = some d := fun u hu => (hu.cell hg).trans x0
              have hgr := Nat.lt_of_lt_of_le hg hB.size
              obtain ⟨h1, h2, h3, h4⟩ := HPa.out p (List.mem_of_getElem? hkp)
              have HPP : Hid (pgB p = true) := Lib.hid (pgB_iff.2 ⟨h2, h3⟩)
              have HTK := Lib.hid (take_snoc_at hkp)
              have HFK : Hid ((C.take k).flatten.length + p.length ≤ 100) := Lib.hid (by
                have e1 : C = C.take k ++ ([p] ++ C.drop (k + 1)) := by rw [← List.append_assoc, ← take_snoc_at hkp, List.take_append_drop]
                have e2 := congrArg List.length HFl.out
                rw [e1, List.flatten_append, List.length_append, List.flatten_append, List.length_append] at e2
                simp only [List.flatten_cons, List.flatten_nil, List.append_nil] at e2
                omega)
              have HD := Lib.hid hd
              obtain ⟨Ad, cd, hdv, _⟩ := hd.form
              subst hdv
              have HO := Lib.hid hO
              have HH4 := Lib.hid h4
              clear hd hkp x0 hO h3 h4
              go_wp2_with fail
              refine (pput_any _ p _ (HD.out.below hB)).mono ?_
              rintro e wq ⟨qv, eq_, rfl, hQ, hbq⟩
              obtain ⟨rfl, hownq⟩ := hQ.yes HPP.out
              have hBq := hB.trans (hbq.mono hB.size)
              have HOq := Lib.hid (HO.out.below hbq)
              have c1 := r0 _ hBq
              obtain ⟨Aq, cq, hqv, _⟩ := hownq.form
              subst hqv
              obtain ⟨N, hN⟩ : ∃ N, N = (pgOf p).length := ⟨_, rfl⟩
              rw [← hN]
              have hNl : N ≤ 1000000 := by
                have h5 := one_le (l := p) (pgB_iff.1 HPP.out).2 p.length
                rw [List.take_length] at h5
                rw [hN, pgOf_length]
                omega
              have HN : Hid (p.length = 1 ∨ (N : Int) ≤ most) := Lib.hid (by rw [hN]; exact HH4.out)
              have hp0 : ((p.length : Int) == 0) = false := beq_eq_false_iff_ne.2 (by omega)
              obtain ⟨ys, hys, hT⟩ := HD.out
              have HYS := Lib.hid (hys.below hBq)
              have HYT := Lib.hid hT
              clear hQ hownq hN hbq hys hT c0
              by_cases hbig : most < (N : Int)
              · have hp1 : ¬ (1 < (p.length : Int)) := by have := HN.out; omega
                go_wp2_with (at_builtin; refine wpList_append_ownT _ rfl _ _ rfl rfl HOq.out rfl HYS.out HYT.out (by have := HFK.out; omega) hBq.size ?_)
                intro av2 wa hOa hga
                have HOA : Hid (OwnT wc wa wc.heap.size av2 (C.take (k + 1)).flatten) := Lib.hid (by rw [HTK.out, List.flatten_append]; simpa using hOa)
                have hBa := hBq.grown hga hBq.size (fun q hq => (HOq.out.lt q hq).1)
                clear hOa hga
                go_wp2_with fail
                exact ⟨⟨k + 1, by omega, by go_num, HOA.out, hBa⟩, by simp [intOf]; omega⟩
              · go_wp2_with (at_builtin; refine wpList_append_ownT _ rfl _ _ rfl rfl HOq.out rfl HYS.out HYT.out (by have := HFK.out; omega) hBq.size ?_)
                intro av2 wa hOa hga
                have HOA : Hid (OwnT wc wa wc.heap.size av2 (C.take (k + 1)).flatten) := Lib.hid (by rw [HTK.out, List.flatten_append]; simpa using hOa)
                have hBa := hBq.grown hga hBq.size (fun q hq => (HOq.out.lt q hq).1)
                clear hOa hga
                go_wp2_with fail
                exact ⟨⟨k + 1, by omega, by go_num, HOA.out, hBa⟩, by simp [intOf]; omega⟩
            · have hkn : k = C.length := by omega
              subst hkn
              rw [List.take_length, HFl.out] at hO
              have HT := Lib.hid (hO.ts hB)
              have hBr := hBc.trans (hB.mono hBc.size)
              clear hO
              go_wp2_with fail
              refine (Traces_same _ _ l _ HT.out (H.out.below hBr)).mono ?_
              rintro e we ⟨rfl, hbe⟩
              go_wp2_with fail
              go_ret
              exact ⟨rfl, hBr.trans (hbe.mono hBr.size)⟩
        · obtain ⟨rfl, rfl⟩ := hP.no hm
          clear hP hm
          go_wp2_with fail
          go_ret
          exact ⟨rfl, hBc⟩
      obtain ⟨k, rfl⟩ := nat_of (n := at_) (by omega)
      obtain ⟨x, rfl⟩ := nat_of hx0
      have hxn : UInt8.ofNat x ≠ 0 := by
        intro h
        have := congrArg UInt8.toNat h
        rw [UInt8.toNat_ofNat'] at this
        simp at this
        omega
      have hbl : (pgBody l).length + 4 = N := by rw [HN.out, pgOf, sealedOf_length]
      obtain ⟨y, m, hy, hm, hml, hbad⟩ := back_pure (pgBody l) k (UInt8.ofNat x) (by omega) hxn
      have hown4 : Own w4 w1.heap.size 5 (.slice (some ⟨g, 0, none⟩) N cap) (sealedOf (pgBody l)) := HOw4.out
      have hcell : w4.cell? ⟨g, k, none⟩ = some (.int .u8 (y.toNat : Int)) := by
        have h := World.ownsRow.cells hown4 (g := g) rfl k (.int .u8 (y.toNat : Int)) (by rw [BV_getElem?, hy]; rfl)
        rw [Addr.add_lit, Nat.zero_add] at h
        exact h
      have hNe : N = (sealedOf (pgBody l)).length := HN.out
      have hfro : w4.frozen? ⟨g, k, none⟩ = false := World.ownsRow.frozenAt (n := N) (by have h := hown4; unfold Own at h; rw [← hNe] at h; exact h) k
      obtain ⟨z, hzz⟩ : ∃ z, z = y ^^^ UInt8.ofNat x := ⟨_, rfl⟩
      rw [← hzz] at hm
      have hxor : bits .xor .u8 (y.toNat : Int) (x : Int) = (z.toNat : Int) := by
        have hyl := y.toNat_lt
        have h := u8_xor_nat y.toNat x (by omega) (by omega)
        rw [h, hzz, UInt8.toNat_xor, UInt8.toNat_ofNat', Nat.mod_eq_of_lt (by omega)]
      have hx0' : (((x : Nat) : Int) == 0) = false := by
        rw [beq_eq_false_iff_ne]
        exact hx
      have HBAD := Lib.hid hbad
      have hst := Own.put_ hNe hown4 k z (.int .u8 (z.toNat : Int)) rfl
      rw [← hm] at hst
      have HST := Lib.hid hst
      have hmN : m.length = N := by omega
      have HMN := Lib.hid hmN
      clear hbad hm hst hy hml hx hxn hown4 hzz hNe hmN hbl
      go_wp2_with fail
      refine (pget_any _ m _ HST.out.1.bs (by have := HMN.out; omega)).mono ?_
      rintro e w6 ⟨o6, f6, rfl, hG, hb6⟩
      obtain ⟨rfl, rfl⟩ := hG.sum (by have := HMN.out; omega) HBAD.out
      have hbs := hB4.grown HST.out.2 hB4.size (by intro j hj; injection hj; have := hb1.size; omega)
      have hB6 := hbs.trans (hb6.mono hbs.size)
      clear hG hcell hfro hxor hbs hb6
      go_wp2_with fail
      refine (pcut_any _ l most _ (H.out.below hB6) (by omega)).mono ?_
      rintro e wc ⟨pv, ec, rfl, hP, hbc⟩
      have hBc := hB6.trans (hbc.mono hB6.size)
      by_cases hm : IsT l ∧ 64 ≤ most ∧ most ≤ 8192
      · obtain ⟨hIs, hm1, hm2⟩ := hm
        obtain ⟨rfl, hPs⟩ := hP.yes hIs hm1 hm2
        have HPs := Lib.hid hPs
        have HPa := Lib.hid (cutL_parts most l.length l hIs)
        have HFl := Lib.hid (cutL_flat most l.length l (Nat.le_refl _))
        obtain ⟨Ax, cx, hxv, hx1, hx2⟩ := hPs.form
        subst hxv
        clear hP hPs hIs hbc
        generalize cutL most l.length l = C at *
        go_wp2_with fail
        go_loopw [19, 20] (fun av iv wr => ∃ k : Nat, k ≤ C.length ∧ iv = .int .i64 (k : Int) ∧ OwnT wc wr wc.heap.size av (C.take k).flatten ∧ Below wc.heap.size wc wr) (fun _ iv _ => C.length - (intOf iv).toNat)
        case atStart => exact ⟨0, Nat.zero_le _, rfl, by simpa using OwnT.nil wc wc wc.heap.size, Below.refl _ _⟩
        case round =>
          obtain ⟨k, hk, rfl, hO, hB⟩ := hrel
          by_cases hlt : k < C.length
          · obtain ⟨p, hkp⟩ : ∃ p, C[k]? = some p := ⟨_, List.getElem?_eq_getElem hlt⟩
            obtain ⟨g, o, d, rfl, hg, x0, hd⟩ := HPs.out.cells hkp
            have c0 := (hB.cell (p := ⟨g, o + k, none⟩) hg).trans x0
            have r0 : ∀ u, Below wc.heap.size wc u → u.cell? ⟨g, o + k, none⟩ = some d := fun u hu => (hu.cell hg).trans x0
            have hgr := Nat.lt_of_lt_of_le hg hB.size
            obtain ⟨h1, h2, h3, h4⟩ := HPa.out p (List.mem_of_getElem? hkp)
            have HPP : Hid (pgB p = true) := Lib.hid (pgB_iff.2 ⟨h2, h3⟩)
            have HTK := Lib.hid (take_snoc_at hkp)
            have HFK : Hid ((C.take k).flatten.length + p.length ≤ 100) := Lib.hid (by
              have e1 : C = C.take k ++ ([p] ++ C.drop (k + 1)) := by rw [← List.append_assoc, ← take_snoc_at hkp, List.take_append_drop]
              have e2 := congrArg List.length HFl.out
              rw [e1, List.flatten_append, List.length_append, List.flatten_append, List.length_append] at e2
              simp only [List.flatten_cons, List.flatten_nil, List.append_nil] at e2
              omega)
            have HD := Lib.hid hd
            obtain ⟨Ad, cd, hdv, _⟩ := hd.form
            subst hdv
            have HO := Lib.hid hO
            have HH4 := Lib.hid h4
            clear hd hkp x0 hO h3 h4
            go_wp2_with fail
            refine (pput_any _ p _ (HD.out.below hB)).mono ?_
            rintro e wq ⟨qv, eq_, rfl, hQ, hbq⟩
            obtain ⟨rfl, hownq⟩ := hQ.yes HPP.out
            have hBq := hB.trans (hbq.mono hB.size)
            have HOq := Lib.hid (HO.out.below hbq)
            have c1 := r0 _ hBq
            obtain ⟨Aq, cq, hqv, _⟩ := hownq.form
            subst hqv
            obtain ⟨N, hN⟩ : ∃ N, N = (pgOf p).length := ⟨_, rfl⟩
            rw [← hN]
            have hNl : N ≤ 1000000 := by
              have h5 := one_le (l := p) (pgB_iff.1 HPP.out).2 p.length
              rw [List.take_length] at h5
              rw [hN, pgOf_length]
              omega
            have HN : Hid (p.length = 1 ∨ (N : Int) ≤ most) := Lib.hid (by rw [hN]; exact HH4.out)
            have hp0 : ((p.length : Int) == 0) = false := beq_eq_false_iff_ne.2 (by omega)
            obtain ⟨ys, hys, hT⟩ := HD.out
            have HYS := Lib.hid (hys.below hBq)
            have HYT := Lib.hid hT
            clear hQ hownq hN hbq hys hT c0
            by_cases hbig : most < (N : Int)
            · have hp1 : ¬ (1 < (p.length : Int)) := by have := HN.out; omega
              go_wp2_with (at_builtin; refine wpList_append_ownT _ rfl _ _ rfl rfl HOq.out rfl HYS.out HYT.out (by have := HFK.out; omega) hBq.size ?_)
              intro av2 wa hOa hga
              have HOA : Hid (OwnT wc wa wc.heap.size av2 (C.take (k + 1)).flatten) := Lib.hid (by rw [HTK.out, List.flatten_append]; simpa using hOa)
              have hBa := hBq.grown hga hBq.size (fun q hq => (HOq.out.lt q hq).1)
              clear hOa hga
              go_wp2_with fail
              exact ⟨⟨k + 1, by omega, by go_num, HOA.out, hBa⟩, by simp [intOf]; omega⟩
            · go_wp2_with (at_builtin; refine wpList_append_ownT _ rfl _ _ rfl rfl HOq.out rfl HYS.out HYT.out (by have := HFK.out; omega) hBq.size ?_)
              intro av2 wa hOa hga
              have HOA : Hid (OwnT wc wa wc.heap.size av2 (C.take (k + 1)).flatten) := Lib.hid (by rw [HTK.out, List.flatten_append]; simpa using hOa)
              have hBa := hBq.grown hga hBq.size (fun q hq => (HOq.out.lt q hq).1)
              clear hOa hga
              go_wp2_with fail
              exact ⟨⟨k + 1, by omega, by go_num, HOA.out, hBa⟩, by simp [intOf]; omega⟩
          · have hkn : k = C.length := by omega
            subst hkn
            rw [List.take_length, HFl.out] at hO
            have HT := Lib.hid (hO.ts hB)
            have hBr := hBc.trans (hB.mono hBc.size)
            clear hO
            go_wp2_with fail
            refine (Traces_same _ _ l _ HT.out (H.out.below hBr)).mono ?_
            rintro e we ⟨rfl, hbe⟩
            go_wp2_with fail
            go_ret
            exact ⟨rfl, hBr.trans (hbe.mono hBr.size)⟩
      · obtain ⟨rfl, rfl⟩ := hP.no hm
        clear hP hm
        go_wp2_with fail
        go_ret
        exact ⟨rfl, hBc⟩

end Go.Proofs.Ytcpbikogccdknaa

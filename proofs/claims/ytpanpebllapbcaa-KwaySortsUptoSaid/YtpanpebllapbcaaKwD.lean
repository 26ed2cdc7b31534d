/-
  WHAT THE PROGRAM's kway.Merge IS TO TELL ('MergeK'); tankardlaw10's small and spans, the head of layer 10's statements, and KwayMerges, walked over that. Conditions: what each says.
-/
import Derived.Test.YtpanpebllapbcaaKwC
import Derived.Test.YtpanpebllapbcaaKwB
import Derived.Test.YtpanpebllapbcaaTrL
import Derived.Test.YtpanpebllapbcaaCode
namespace Go.Proofs.Ytpanpebllapbcaa
open Go.RowKit
set_option maxRecDepth 100000

/-- a slice of traces -/
def TsV (w : World) (r : List Tn) (d : Value) : Prop := Ts w d r
theorem sls_ts_below {w w' : World} {v : Value} {rows : List (List Tn)} (h : Sls TsV w v rows) (hb : Below w.heap.size w w') : Sls TsV w' v rows := h.below (fun {_ _} (h1 : Ts _ _ _) => h1.below hb) hb
/-- what merging rows comes to -/
def MergeP (w : World) (rows : List (List Tn)) (x err : Value) : Prop :=
  (err = .nilIface ∧ (∀ r ∈ rows, IsT r) ∧ ∃ g, Grp (flatR rows) g ∧ (∀ t ∈ g, t.sp.length ≤ 100) ∧ Ts w x g) ∨
  (err = code 1 ∧ (∃ r ∈ rows, ¬ IsT r) ∧ ∃ A c, x = .slice A 0 c) ∨
  (err = code 3 ∧ (∀ r ∈ rows, IsT r) ∧ (∃ g, Grp (flatR rows) g ∧ ∃ t ∈ g, 100 < t.sp.length) ∧ ∃ A c, x = .slice A 0 c)

abbrev MergeK : Prop := ∀ {w : World} {v : Value} {rows : List (List Tn)}, Sls TsV w v rows → rows.length ≤ 1000 → (∀ r ∈ rows, r.length ≤ 1000) → (flatR rows).length ≤ 10000 → (∀ s ∈ flatR rows, s.data.length ≤ 1000) →
  Calls Try.prog 8 #[v] w fun e w' => ∃ x err, e = .returned (.tuple #[x, err]) ∧ MergeP w' rows x err ∧ Below w.heap.size w w'

/-- are rows few, and small? -/
def smallB (rows : List (List Tn)) : Bool := rows.all (fun r => fewT r 100) && decide (rows.length ≤ 8)

theorem small_any (v : Value) (rows : List (List Tn)) (w : World) (h : Sls TsV w v rows) (hl : ∀ r ∈ rows, r.length ≤ 140737488355328) :
    Calls Try.prog 7 #[v] w fun e w' => e = .returned (.bool (smallB rows)) ∧ w = w' := by
  have H := Lib.hid h
  have HL := Lib.hid hl
  obtain ⟨A, c, rfl, hc1, hc2⟩ := h.form
  clear h hl
  go_enter Try.func7, Try.ntmps7
  go_wp2_with fail
  go_loopg [3, 4] rows.length (fun gk iv _ wr => ∃ (k : Nat), k + gk = rows.length ∧ iv = .int .i64 (k : Int) ∧ wr = w ∧ Hid ((rows.take k).all (fun r => fewT r 100) = true))
  case atStart => exact ⟨0, by omega, rfl, rfl, Lib.hid rfl⟩
  case round =>
    obtain ⟨k, hk, rfl, rfl, HF⟩ := hrel
    by_cases hlt : k < rows.length
    · obtain ⟨gk1, hgk1⟩ : ∃ x, gk = x + 1 := ⟨gk - 1, by omega⟩
      obtain ⟨r, hr⟩ : ∃ r, rows[k]? = some r := ⟨_, List.getElem?_eq_getElem hlt⟩
      obtain ⟨g, o, d, rfl, hg, x0, hd⟩ := H.out.cell hr
      have hcall := FewTraces_any d r 100 wr hd (HL.out r (List.mem_of_getElem? hr))
      have HR := Lib.hid hr
      have a0 : (0 : Int) ≤ (k : Int) := by omega
      have a1 : (k : Int) < (rows.length : Int) := by omega
      obtain ⟨Ad, cd, rfl, _, _⟩ := Ts.form hd
      clear hr hd
      generalize hfe : fewT r 100 = b at hcall
      have HFE := Lib.hid hfe
      clear hfe
      go_wp2_with fail
      refine hcall.mono ?_
      rintro e w2 ⟨rfl, rfl⟩
      cases b with
      | false =>
        have hE : Hid (smallB rows = false) := Lib.hid (by
          have : rows.all (fun r => fewT r 100) = false := by
            rw [List.all_eq_false]
            exact ⟨r, List.mem_of_getElem? HR.out, by rw [HFE.out]; simp⟩
          rw [smallB, this]
          rfl)
        go_wp2_with fail
        go_ret
        exact ⟨ret_bool hE.out.symm, rfl⟩
      | true =>
        have HF2 : Hid ((rows.take (k + 1)).all (fun r => fewT r 100) = true) := Lib.hid (by
          rw [take_snoc_at HR.out, List.all_append, HF.out, List.all_cons, HFE.out]
          rfl)
        go_wp2_with fail
        go_roundg gk1
        case measure => omega
        case rel => exact ⟨k + 1, by omega, by go_num, rfl, HF2⟩
    · have hkn : k = rows.length := by omega
      subst hkn
      have hE : Hid (smallB rows = decide ((rows.length : Int) ≤ 8)) := Lib.hid (by
        have := HF.out
        rw [List.take_length] at this
        rw [smallB, this, Bool.true_and]
        congr 1
        apply propext
        omega)
      go_wp2_with fail
      go_ret
      exact ⟨ret_bool hE.out.symm, rfl⟩
theorem small_few {rows : List (List Tn)} (h : smallB rows = true) : rows.length ≤ 8 ∧ (∀ r ∈ rows, r.length ≤ 100) ∧ (flatR rows).length ≤ 800 ∧ (∀ s ∈ flatR rows, s.data.length ≤ 200) := by
  rw [smallB, Bool.and_eq_true, decide_eq_true_eq, List.all_eq_true] at h
  obtain ⟨h1, h2⟩ := h
  have hf : ∀ r ∈ rows, r.length ≤ 100 ∧ (flatT r).length ≤ 100 ∧ ∀ s ∈ flatT r, s.data.length ≤ 200 := fun r hr => few_100 (h1 r hr)
  refine ⟨h2, fun r hr => (hf r hr).1, ?_, fun s hs => ?_⟩
  · have : ∀ l : List (List Tn), (∀ r ∈ l, (flatT r).length ≤ 100) → (flatR l).length ≤ 100 * l.length := by
      intro l
      induction l with
      | nil => intro _; simp [flatR]
      | cons r l ih =>
        intro hl
        have e1 := ih fun x hx => hl x (List.mem_cons_of_mem _ hx)
        have e2 := hl r (List.mem_cons_self ..)
        simp only [flatR, List.flatMap_cons, List.length_append, List.length_cons] at e1 ⊢
        omega
    have := this rows fun r hr => (hf r hr).2.1
    omega
  · obtain ⟨r, hr, hsr⟩ := mem_flatR.1 hs
    exact (hf r hr).2.2 s hsr

theorem Flat_own (v : Value) (l : List Tn) (w0 w : World) (hB0 : Below w0.heap.size w0 w) (h : Ts w0 v l) (hl : (flatT l).length ≤ 10000000) (hll : l.length ≤ 1000000) :
    Calls Try.prog 26 #[v] w fun e w' => ∃ v', e = .returned v' ∧ OwnO w0 w' w.heap.size v' (flatT l) ∧ Below w.heap.size w w' := by
  obtain ⟨A, c, rfl, hc1, hc2⟩ := h.form
  have H := Lib.hid h
  have HB0 := Lib.hid hB0
  have HFl := Lib.hid hl
  clear h hB0 hl
  go_enter Try.func26, Try.ntmps26
  go_wp2_with fail
  go_loopg [3, 4] l.length (fun gk ov kv wr => ∃ k : Nat, k + gk = l.length ∧ kv = .int .i64 (k : Int) ∧ Hid (OwnO w0 wr w.heap.size ov (flatT (l.take k)) ∧ Below w.heap.size w wr))
  case atStart => exact ⟨0, by omega, rfl, Lib.hid ⟨OwnO.nil _ _ _, Below.refl _ _⟩⟩
  case round =>
    obtain ⟨k, hk, rfl, HM⟩ := hrel
    have HBr : Hid (Below w0.heap.size w0 wr) := Lib.hid (HB0.out.trans (HM.out.2.mono HB0.out.size))
    by_cases hlt : k < l.length
    · obtain ⟨gk1, hgk1⟩ : ∃ x, gk = x + 1 := ⟨gk - 1, by omega⟩
      obtain ⟨t, hkt⟩ : ∃ t, l[k]? = some t := ⟨_, List.getElem?_eq_getElem hlt⟩
      obtain ⟨g, o, d, rfl, hg, c0, c1, hd, _⟩ := H.out.cells hkt
      replace c0 := (HBr.out.cell (p := ⟨g, o + k * 2, none⟩) hg).trans c0
      replace c1 := (HBr.out.cell (p := ⟨g, o + k * 2 + 1, none⟩) hg).trans c1
      have HT := Lib.hid (take_snoc_at hkt)
      have HFL : Hid ((flatT (l.take k)).length + t.sp.length ≤ 10000000) := Lib.hid (by
        have h1 : l = l.take k ++ ([t] ++ l.drop (k + 1)) := by
          rw [← List.append_assoc, ← take_snoc_at hkt, List.take_append_drop]
        have h2 := congrArg (fun z => (flatT z).length) h1
        simp only [flatT, List.flatMap_append, List.length_append, List.flatMap_cons, List.flatMap_nil, List.append_nil] at h2
        have := HFl.out
        simp only [flatT] at this ⊢
        omega)
      obtain ⟨ys, hlv, hys⟩ := hd
      have HLV := Lib.hid (hlv.below HBr.out)
      have HYS := Lib.hid hys
      clear hkt hlv hys
      go_wp2_with (at_builtin; refine wpList_append_ownO _ rfl _ _ rfl rfl HM.out.1 rfl HLV.out HYS.out (by have := HFL.out; omega) HM.out.2.size ?_)
      intro v5 w5 ho5 hg5 _
      have HO5 : Hid (OwnO w0 w5 w.heap.size v5 (flatT (l.take (k + 1)))) := Lib.hid (by
        rw [HT.out, flatT, List.flatMap_append]
        simpa [flatT] using ho5)
      have HB5 := Lib.hid (HM.out.2.grown hg5 HM.out.2.size (fun q hq => (HM.out.1.lt q hq).1))
      clear ho5 hg5
      go_wp2_with fail
      go_roundg gk1
      case measure => omega
      case rel => exact ⟨k + 1, by omega, by go_num, Lib.hid ⟨HO5.out, HB5.out⟩⟩
    · have hkk : k = l.length := by omega
      subst hkk
      have HE := HM.out
      rw [List.take_length] at HE
      have HE := Lib.hid HE
      go_wp2_with fail
      go_ret
      exact ⟨_, rfl, HE.out.1, HE.out.2⟩
theorem flatR_take {rows : List (List Tn)} {k : Nat} {r : List Tn} (hr : rows[k]? = some r) : flatR (rows.take (k + 1)) = flatR (rows.take k) ++ flatT r ∧ (flatR (rows.take k)).length + (flatT r).length ≤ (flatR rows).length := by
  have e : flatR (rows.take (k + 1)) = flatR (rows.take k) ++ flatT r := by rw [take_snoc_at hr, flatR_append]; simp [flatR]
  refine ⟨e, ?_⟩
  have h1 : flatR rows = flatR (rows.take (k + 1)) ++ flatR (rows.drop (k + 1)) := by rw [← flatR_append, List.take_append_drop]
  rw [h1, e]
  simp only [List.length_append]
  omega
theorem spans10_any (v : Value) (rows : List (List Tn)) (w : World) (h : Sls TsV w v rows) (hl : (flatR rows).length ≤ 100000) (hr : ∀ r ∈ rows, r.length ≤ 100000) :
    Calls Try.prog 11 #[v] w fun e w' => ∃ v', e = .returned v' ∧ Ss w' v' (flatR rows) ∧ Below w.heap.size w w' := by
  have H := Lib.hid h
  have HL := Lib.hid hl
  have HR := Lib.hid hr
  obtain ⟨A, c, rfl, hc1, hc2⟩ := h.form
  clear h hl hr
  go_enter Try.func11, Try.ntmps11
  go_wp2_with fail
  go_loopg [3, 4] rows.length (fun gk ov iv wr => ∃ (k : Nat), k + gk = rows.length ∧ iv = .int .i64 (k : Int) ∧ Hid (OwnO w wr w.heap.size ov (flatR (rows.take k)) ∧ Below w.heap.size w wr))
  case atStart => exact ⟨0, by omega, rfl, Lib.hid ⟨OwnO.nil _ _ _, Below.refl _ _⟩⟩
  case round =>
    obtain ⟨k, hk, rfl, HM⟩ := hrel
    by_cases hlt : k < rows.length
    · obtain ⟨gk1, hgk1⟩ : ∃ x, gk = x + 1 := ⟨gk - 1, by omega⟩
      obtain ⟨r, hkr⟩ : ∃ r, rows[k]? = some r := ⟨_, List.getElem?_eq_getElem hlt⟩
      obtain ⟨g, o, d, rfl, hg, x0, hd⟩ := H.out.cell hkr
      replace x0 := (HM.out.2.cell (p := ⟨g, o + k, none⟩) hg).trans x0
      obtain ⟨hft, hfl⟩ := flatR_take hkr
      have HFT := Lib.hid hft
      have HFL : Hid ((flatR (rows.take k)).length + (flatT r).length ≤ 100000) := Lib.hid (by have := HL.out; omega)
      have hcall := Flat_own d r w wr HM.out.2 hd (by have := HFL.out; omega) (by have := HR.out r (List.mem_of_getElem? hkr); omega)
      obtain ⟨Ad, cd, rfl, _, _⟩ := Ts.form hd
      have a0 : (0 : Int) ≤ (k : Int) := by omega
      have a1 : (k : Int) < (rows.length : Int) := by omega
      clear hkr hd hft hfl
      go_wp2_with fail
      refine hcall.mono ?_
      rintro e w3 ⟨v3, rfl, ho3, hb3⟩
      obtain ⟨ys, hlv, hys⟩ := ho3
      have HLV := Lib.hid hlv.lv
      have HYS := Lib.hid hys
      have HB3 : Hid (Below w.heap.size w w3) := Lib.hid (HM.out.2.trans (hb3.mono HM.out.2.size))
      have HM3 := Lib.hid (HM.out.1.below hb3)
      clear hlv hys hb3 hcall
      go_wp2_with (at_builtin; refine wpList_append_ownO _ rfl _ _ rfl rfl HM3.out rfl HLV.out HYS.out (by have := HFL.out; omega) HB3.out.size ?_)
      intro v5 w5 ho5 hg5 _
      have HO5 : Hid (OwnO w w5 w.heap.size v5 (flatR (rows.take (k + 1)))) := Lib.hid (by
        rw [HFT.out]
        exact ho5)
      have HB5 := Lib.hid (HB3.out.grown hg5 HB3.out.size (fun q hq => (HM3.out.lt q hq).1))
      clear ho5 hg5
      go_wp2_with fail
      go_roundg gk1
      case measure => omega
      case rel => exact ⟨k + 1, by omega, by go_num, Lib.hid ⟨HO5.out, HB5.out⟩⟩
    · have hkk : k = rows.length := by omega
      subst hkk
      have HE := HM.out
      rw [List.take_length] at HE
      have HE := Lib.hid HE
      go_wp2_with fail
      go_ret
      exact ⟨_, rfl, HE.out.1.ss HE.out.2, HE.out.2⟩

theorem lit_span {w : World} {H : Nat} (hH : w.heap.size = H) (s : Sn) (hok : s.ok) (hd : s.data = []) :
    Ss (w.alloc (.cells #[.int .u64 s.tr, .int .u64 s.id, .int .i64 s.st, .int .i64 s.en, .slice none 0 0] 51)) (.slice (some ⟨H, 0, none⟩) 1 1) [s] :=
  ⟨[spCells s (.slice none 0 0)], Lv.litH (spCells s (.slice none 0 0)) _ hH, Two.nil.snoc (l := []) (m := []) ⟨hok, _, rfl, by rw [hd]; exact Bs.nil _⟩⟩
theorem lit_trace {w : World} {H : Nat} (hH : w.heap.size = H) {d : Value} {l : List Sn} {i : Int} (hd : Ss w d l) (hi : 0 ≤ i ∧ i ≤ 18446744073709551615) :
    Ts (w.alloc (.cells #[.int .u64 i, d] 37)) (.slice (some ⟨H, 0, none⟩) 1 1) [⟨i, l⟩] :=
  ⟨[[.int .u64 i, d]], Lv.litH [.int .u64 i, d] _ hH, Two.nil.snoc (l := []) (m := []) ⟨hi, d, rfl, hd.alloc _⟩⟩
theorem lit_rows2 {w : World} {H : Nat} (hH : w.heap.size = H) {d e : Value} {a b : List Tn} (hd : Ts w d a) (he : Ts w e b) :
    Sls TsV (w.alloc (.cells #[d, e] 25)) (.slice (some ⟨H, 0, none⟩) 2 2) [a, b] := by
  have hb : Below w.heap.size w (w.alloc (.cells #[d, e] 25)) := (Below.refl _ _).alloc (Nat.le_refl _) _
  subst hH
  refine ⟨[[d], [e]], ⟨_, 2, rfl, Nat.le_refl _, by omega, ?_, ?_⟩, (Two.nil.snoc (l := []) (m := []) ⟨d, rfl, Ts.below hd hb⟩).snoc ⟨e, rfl, Ts.below he hb⟩⟩
  · intro x hx
    simp at hx
    rcases hx with rfl | rfl <;> rfl
  · exact Rd.lit w #[d, e] 25
theorem lit_rows1 {w : World} {H : Nat} (hH : w.heap.size = H) {d : Value} {a : List Tn} (hd : Ts w d a) :
    Sls TsV (w.alloc (.cells #[d] 25)) (.slice (some ⟨H, 0, none⟩) 1 1) [a] :=
  ⟨[[d]], Lv.litH [d] _ hH, Two.nil.snoc (l := []) (m := []) ⟨d, rfl, Ts.below hd ((Below.refl _ _).alloc (Nat.le_refl _) _)⟩⟩
theorem ku_ok : kuA.ok ∧ kuB.ok := by refine ⟨⟨?_, ?_, ?_, ?_, ?_, ?_, ?_, ?_⟩, ⟨?_, ?_, ?_, ?_, ?_, ?_, ?_, ?_⟩⟩ <;> decide

set_option maxHeartbeats 1600000 in
theorem up10_any (hM : MergeK) (w : World) : Calls Try.prog 6 #[] w fun e w' => e = .returned (.bool true) ∧ Below w.heap.size w w' := by
  have HM : Hid MergeK := Lib.hid hM
  clear hM
  have h1 := lit_span (w := w) rfl kuA ku_ok.1 rfl
  have h2 := lit_trace (H := w.heap.size + 1) (by simp) h1 (i := 1) (by omega)
  generalize hw2 : (w.alloc (.cells #[.int .u64 kuA.tr, .int .u64 kuA.id, .int .i64 kuA.st, .int .i64 kuA.en, .slice none 0 0] 51)).alloc (.cells #[.int .u64 1, .slice (some ⟨w.heap.size, 0, none⟩) 1 1] 37) = w2 at h2
  have hz2 : w2.heap.size = w.heap.size + 1 + 1 := by rw [← hw2]; simp
  have hb2 : Below w.heap.size w w2 := by rw [← hw2]; exact ((Below.refl _ _).alloc (Nat.le_refl _) _).alloc (by simp) _
  have h3 := lit_span (w := w2) (H := w.heap.size + 1 + 1) hz2 kuB ku_ok.2 rfl
  have h4 := lit_trace (H := w.heap.size + 1 + 1 + 1) (by simp [hz2]) h3 (i := 1) (by omega)
  generalize hw4 : (w2.alloc (.cells #[.int .u64 kuB.tr, .int .u64 kuB.id, .int .i64 kuB.st, .int .i64 kuB.en, .slice none 0 0] 51)).alloc (.cells #[.int .u64 1, .slice (some ⟨w.heap.size + 1 + 1, 0, none⟩) 1 1] 37) = w4 at h4
  have hb24 : Below w2.heap.size w2 w4 := by rw [← hw4]; exact ((Below.refl _ _).alloc (Nat.le_refl _) _).alloc (by simp) _
  have hz4 : w4.heap.size = w.heap.size + 1 + 1 + 1 + 1 := by rw [← hw4]; simp [hz2]
  have h5 := lit_rows2 (w := w4) hz4 (h2.below hb24) h4
  have hb5 : Below w.heap.size w (w4.alloc (.cells #[.slice (some ⟨w.heap.size + 1, 0, none⟩) 1 1, .slice (some ⟨w.heap.size + 1 + 1 + 1, 0, none⟩) 1 1] 25)) := (hb2.trans (hb24.mono hb2.size)).alloc (by rw [hz4]; omega) _
  rw [← hw4, ← hw2] at h5 hb5
  have hcall := HM.out h5 (by decide) (by intro r hr; simp at hr; rcases hr with rfl | rfl <;> simp) (by decide) (by intro s hs; simp [flatR, flatT] at hs; rcases hs with rfl | rfl <;> simp [kuA, kuB])
  have HB5 := Lib.hid hb5
  simp only [kuA, kuB] at hcall
  clear h1 h2 h3 h4 h5 hb5 hb2 hb24 hz2 hz4 hw2 hw4
  go_enter Try.func6, Try.ntmps6
  go_wp2_with fail
  refine hcall.mono ?_
  rintro e w6 ⟨x, err, rfl, hP, hb6⟩
  replace hP : MergeP w6 [[⟨1, [kuA]⟩], [⟨1, [kuB]⟩]] x err := hP
  have hI : ∀ r ∈ [[(⟨1, [kuA]⟩ : Tn)], [⟨1, [kuB]⟩]], IsT r := by
    intro r hr
    simp at hr
    rcases hr with rfl | rfl
    · exact ku_one _ (.inl rfl)
    · exact ku_one _ (.inr rfl)
  obtain ⟨rfl, HT⟩ : err = .nilIface ∧ Hid (Ts w6 x [⟨1, [kuB, kuA]⟩]) := by
    rcases hP with ⟨h1, _, g, hg, _, ht⟩ | ⟨_, ⟨r, hr, hn⟩, _⟩ | ⟨_, _, ⟨g, hg, t, ht, hl⟩, _⟩
    · obtain rfl := hg.one ku_grp
      exact ⟨h1, Lib.hid ht⟩
    · exact absurd (hI r hr) hn
    · obtain rfl := hg.one ku_grp
      simp at ht
      subst ht
      simp at hl
  have HB6 : Hid (Below w.heap.size w w6) := Lib.hid (HB5.out.trans (hb6.mono HB5.out.size))
  clear hP hI hb6 hcall
  have l1 := lit_trace (w := w6) (H := w6.heap.size) rfl (Ss.nil w6) (i := 0) (by omega)
  have l2 := lit_rows1 (H := w6.heap.size + 1) (by simp) l1
  have hbl : Below w6.heap.size w6 ((w6.alloc (.cells #[.int .u64 0, .slice none 0 0] 37)).alloc (.cells #[.slice (some ⟨w6.heap.size, 0, none⟩) 1 1] 25)) := ((Below.refl _ _).alloc (Nat.le_refl _) _).alloc (by simp) _
  have hcall2 := HM.out l2 (by simp) (by simp) (by simp [flatR, flatT]) (by simp [flatR, flatT])
  have HBL := Lib.hid hbl
  obtain ⟨A, c, rfl, hc1, _⟩ := Ts.form HT.out
  clear l1 l2 hbl
  go_wp2_with fail
  refine hcall2.mono ?_
  rintro e w7 ⟨x2, err2, rfl, hP2, hb7⟩
  obtain rfl : err2 = code 1 := by
    rcases hP2 with ⟨_, hI, _⟩ | ⟨h1, _⟩ | ⟨_, hI, _⟩
    · exact absurd (hI _ (List.mem_singleton.2 rfl)) ku_zero
    · exact h1
    · exact absurd (hI _ (List.mem_singleton.2 rfl)) ku_zero
  have hb67 : Below w6.heap.size w6 w7 := HBL.out.trans (hb7.mono HBL.out.size)
  have HB7 : Hid (Below w.heap.size w w7) := Lib.hid (HB6.out.trans (hb67.mono HB6.out.size))
  have hT7 := Ts.below HT.out hb67
  obtain ⟨g, o, d, rfl, hg, x0, x1, hd, _⟩ := Ts.cells hT7 (i := 0) rfl
  obtain ⟨A1, c1, rfl, hc2, _⟩ := hd.form
  obtain ⟨g2, o2, d2, rfl, hg2, y0, y1, y2, y3, y4, _⟩ := hd.cells (i := 0) (s := kuB) rfl
  simp [kuB] at x1 y1
  have eqc := fun u => eqCode u 1 1
  clear hP2 hb7 hb67 hT7 hd hcall2 x0 y0 y2 y3 y4
  go_wp2_with fail
  go_ret
  exact ⟨rfl, HB7.out⟩
end Go.Proofs.Ytpanpebllapbcaa

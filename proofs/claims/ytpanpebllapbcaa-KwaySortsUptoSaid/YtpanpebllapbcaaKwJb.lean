/-
  CONTRACT of the program's kway.Sorted at tankard/api.Trace, over any heap that keeps what is asked of it. Conditions: at most 1000 rows that rise, 10000 elements.
-/
import Derived.Test.YtpanpebllapbcaaKwJ
import Derived.Deep.DeepCutAuto
namespace Go.Proofs.Ytpanpebllapbcaa
open Go.RowKit
set_option maxRecDepth 100000

/-- what is behind the first one of a row -/
theorem kwTail_T {w : World} {g o c : Nat} {x : Te} {xs : List Te} (h : Lv 2 w (.slice (some ⟨g, o, none⟩) (xs.length + 1) c) ((x :: xs).map teC)) :
    ∃ A', (∀ u, (Instr.slice 25 (.slice (some ⟨g, o, none⟩) (xs.length + 1) c) (some (.int .i64 1)) none none).run Try.prog u = .ok (.slice A' xs.length (c - 1)) u) ∧ Lv 2 w (.slice A' xs.length (c - 1)) (xs.map teC) := by
  obtain ⟨A2, c2, e, h1, _⟩ := h.form
  injection e with e1 e2 e3
  subst e3
  rw [List.length_map, List.length_cons] at h1
  exact ⟨_, fun u => run_slice_from teT rfl 1 (by omega) h1 u, h.from_ 1 (by omega)⟩

set_option maxHeartbeats 6400000 in
theorem kwSorted_T {HP : World → (Nat → Prop) → Nat → Value → (Kr Te → Kr Te → Bool) → Nat → List (Kr Te) → Prop} (hK : HeapKrT HP) {w : World} {v : Value} {rows : List (List Te)} (hl : Sls TeV w v rows) (hs : ∀ r ∈ rows, r.Pairwise fun a b => teR b a = false) (h1 : rows.flatten.length ≤ 10000) (h2 : rows.length ≤ 1000) :
    Calls Try.prog 17 #[v, .func (.func 18) #[] #[]] w fun e w' => ∃ s out, e = .returned s ∧ OwnL 2 w' w.heap.size 37 s (out.map teC) ∧ Merged teR rows out ∧ Below w.heap.size w w' := by
  have HK := Lib.hid hK
  have HL := Lib.hid hl
  have HS := Lib.hid hs
  have HFl := Lib.hid h1
  obtain ⟨A, c, rfl, hc1, hc2⟩ := hl.form
  have hb1 : Below w.heap.size w (w.alloc (.cells #[.func (.func 18) #[] #[]] 54)) := (Below.refl _ w).alloc (Nat.le_refl _) _
  have hq1 := (Blk.new w 54 #[.func (.func 18) #[] #[]]).cell 0
  have hz1 : w.heap.size < (w.alloc (.cells #[.func (.func 18) #[] #[]] 54)).heap.size := by simp
  simp only [List.getElem?_toArray, List.getElem?_cons_zero] at hq1
  have HQ1 := Lib.hid hq1
  have HZ1 := Lib.hid hz1
  have HB1 := Lib.hid hb1
  clear hK hl hs h1 hb1 hq1 hz1
  go_enter Try.func17, Try.ntmps17
  go_wp2_with fail
  generalize w.alloc (.cells #[.func (.func 18) #[] #[]] 54) = w1 at *
  have HO : Hid (∀ (F : Nat → Prop) (u : World), Below w1.heap.size w1 u → (∀ z, F z → w1.heap.size ≤ z) → Keep F (LessAt krV (.func (.func 35) #[] #[.pointer (some ⟨w.heap.size, 0, none⟩)]) (krR teR) (krD 2 teC w)) u) := Lib.hid fun F u hu hF u2 ha => by
    have hu2 := below_apt hu ha hF hu.size
    have hu0 := HB1.out.trans (hu2.mono HB1.out.size)
    exact ⟨_, _, rfl, fun _ _ => rfl, fun a b hDa hDb => kwAhead_T a b ((hu2.cell (p := ⟨w.heap.size, 0, none⟩) HZ1.out).trans HQ1.out) (Nat.lt_of_lt_of_le HZ1.out hu2.size) (hDa.below_T hu0) (hDb.below_T hu0)⟩
  have HR : Hid (WeakO (krR teR) (krD 2 teC w)) := Lib.hid (krO teO fun a ha => ha.1)
  refine (HK.out.new_ok _ _ _ (krR teR)).mono ?_
  rintro e w2 ⟨g, F2, rfl, hP2, hb2, hF2⟩
  have HM2 : Hid (HP w2 F2 g (.func (.func 35) #[] #[.pointer (some ⟨w.heap.size, 0, none⟩)]) (krR teR) 0 [] ∧ Below w1.heap.size w1 w2 ∧ ∀ z, F2 z → w1.heap.size ≤ z) := Lib.hid ⟨hP2, hb2, hF2⟩
  clear hP2 hb2 hF2
  go_wp2_with fail
  go_loopg [6, 7, 16] rows.length (fun gk _ _ iv wr => ∃ (i n : Nat) (F : Nat → Prop) (l : List (Kr Te)), i + gk = rows.length ∧ iv = .int .i64 (i : Int) ∧ Hid (HP wr F g (.func (.func 35) #[] #[.pointer (some ⟨w.heap.size, 0, none⟩)]) (krR teR) n l ∧ KBeg 2 teC w rows i l ∧ Below w1.heap.size w1 wr ∧ (∀ z, F z → w1.heap.size ≤ z) ∧ n ≤ i))
  case atStart => exact ⟨0, 0, F2, [], by omega, rfl, Lib.hid ⟨HM2.out.1, KBeg.nil, HM2.out.2.1, HM2.out.2.2, Nat.le_refl _⟩⟩
  case round =>
    obtain ⟨i, n, F, l, hig, rfl, HM⟩ := hrel
    by_cases hlt : i < rows.length
    · obtain ⟨gk1, hgk1⟩ : ∃ x, gk = x + 1 := ⟨gk - 1, by omega⟩
      obtain ⟨r, hr⟩ : ∃ r, rows[i]? = some r := ⟨_, List.getElem?_eq_getElem hlt⟩
      obtain ⟨g0, o0, d0, rfl, hg0, hc0, hd0⟩ := HL.out.cell hr
      have hwr := HB1.out.trans (HM.out.2.2.1.mono HB1.out.size)
      have x0 := (hwr.cell (p := ⟨g0, o0 + i, none⟩) hg0).trans hc0
      have HWR := Lib.hid hwr
      obtain ⟨A0, c0, hd0f, hc3, hc4⟩ := hd0.form
      rw [List.length_map] at hd0f hc3
      subst hd0f
      have HD0 := Lib.hid hd0
      have HRI := Lib.hid hr
      have a0 : (0 : Int) ≤ (i : Int) := by omega
      have a1 : (i : Int) < (rows.length : Int) := by omega
      clear hr hd0 hc0 hwr
      cases r with
      | nil =>
        have hB := HM.out.2.1.none HRI.out
        have HB := Lib.hid hB
        clear hB
        go_wp2_with fail
        go_roundg gk1
        case measure => omega
        case rel => exact ⟨i + 1, n, F, l, by omega, by go_num, Lib.hid ⟨HM.out.1, HB.out, HM.out.2.2.1, HM.out.2.2.2.1, by have := HM.out.2.2.2.2; omega⟩⟩
      | cons x xs =>
        have hB := HM.out.2.1.push (o := ⟨A0, xs.length + 1, c0, i, x :: xs⟩) ⟨by simp, rfl, HD0.out⟩ rfl HRI.out
        have hC := HK.out.push (x := (⟨A0, xs.length + 1, c0, i, x :: xs⟩ : Kr Te)) HM.out.1 HR.out (HO.out F wr HM.out.2.2.1 HM.out.2.2.2.1) (fun y hy => (HM.out.2.1.D y hy).1) ⟨by simp, rfl, HD0.out⟩ (by have := HM.out.2.1.few; omega) (by have := HM.out.2.2.2.2; omega)
        have HB := Lib.hid hB
        have hxl : (0 : Int) < ((xs.length + 1 : Nat) : Int) := by omega
        unfold krV at hC
        clear hB
        rw [List.length_cons] at *
        go_wp2_with fail
        refine hC.mono ?_
        rintro e w3 ⟨rfl, F3, hP3, ha3, hn3⟩
        have HM3 : Hid (HP w3 F3 g (.func (.func 35) #[] #[.pointer (some ⟨w.heap.size, 0, none⟩)]) (krR teR) (n + 1) (l ++ [⟨A0, xs.length + 1, c0, i, x :: xs⟩]) ∧ Below w1.heap.size w1 w3 ∧ ∀ z, F3 z → w1.heap.size ≤ z) := Lib.hid ⟨hP3, below_apt HM.out.2.2.1 ha3 HM.out.2.2.2.1 HM.out.2.2.1.size, fun z hz => (hn3 z hz).elim (HM.out.2.2.2.1 z) fun h => Nat.le_trans HM.out.2.2.1.size h⟩
        clear hP3 ha3 hn3
        go_wp2_with fail
        go_roundg gk1
        case measure => omega
        case rel => exact ⟨i + 1, n + 1, F3, _, by omega, by go_num, Lib.hid ⟨HM3.out.1, HB.out, HM3.out.2.1, HM3.out.2.2, by have := HM.out.2.2.2.2; omega⟩⟩
    · have hin : i = rows.length := by omega
      subst hin
      have hI := HM.out.2.1.done HS.out
      have hM : HP wr F g (.func (.func 35) #[] #[.pointer (some ⟨w.heap.size, 0, none⟩)]) (krR teR) n l ∧ KInv teR 2 teC w rows rows [] l ∧ Below w1.heap.size w1 wr ∧ (∀ z, F z → w1.heap.size ≤ z) ∧ n ≤ 1000 := ⟨HM.out.1, hI, HM.out.2.2.1, HM.out.2.2.2.1, by have := HM.out.2.2.2.2; omega⟩
      have HM4 := Lib.hid hM
      clear hI hM HM
      obtain ⟨w5, hw5⟩ : ∃ u, u = wr := ⟨_, rfl⟩
      subst hw5
      go_wp2_with fail
      go_loopg [8, 9, 10, 11] rows.flatten.length (fun gk ov _ _ _ wr => ∃ (n : Nat) (F : Nat → Prop) (l : List (Kr Te)) (rest : List (List Te)) (out : List Te), out.length + gk = rows.flatten.length ∧ Hid (HP wr F g (.func (.func 35) #[] #[.pointer (some ⟨w.heap.size, 0, none⟩)]) (krR teR) n l ∧ KInv teR 2 teC w rows rest out l ∧ Below w1.heap.size w1 wr ∧ (∀ z, F z → w1.heap.size ≤ z) ∧ n ≤ 1000 + out.length ∧ OwnL 2 wr w1.heap.size 37 ov (out.map teC) ∧ (∀ z, ov.ownBlock = some z → ¬ F z)))
      case atStart => exact ⟨n, F, l, rows, [], by simp, Lib.hid ⟨HM4.out.1, HM4.out.2.1, HM4.out.2.2.1, HM4.out.2.2.2.1, by have := HM4.out.2.2.2.2; simp; omega, OwnL.nil _ _ _ _, fun z hz => by simp [Value.ownBlock] at hz⟩⟩
      case round =>
        obtain ⟨n, F, l, rest, out, hog, HM⟩ := hrel
        have hC := HK.out.len HM.out.1 (by have := HM.out.2.1.few; omega)
        have hof := HM.out.2.2.2.2.2.1.lv.form
        obtain ⟨Ao, co, hov, hco1, hco2⟩ := hof
        rw [List.length_map] at hov hco1
        subst hov
        clear HM4
        go_wp2_with fail
        refine hC.mono ?_
        rintro e w6 ⟨rfl, F6, hP6, ha6, hn6⟩
        have HM6 : Hid (HP w6 F6 g (.func (.func 35) #[] #[.pointer (some ⟨w.heap.size, 0, none⟩)]) (krR teR) n l ∧ KInv teR 2 teC w rows rest out l ∧ Below w1.heap.size w1 w6 ∧ (∀ z, F6 z → w1.heap.size ≤ z) ∧ n ≤ 1000 + out.length ∧ OwnL 2 w6 w1.heap.size 37 (.slice Ao out.length co) (out.map teC) ∧ (∀ z, (Value.slice Ao out.length co).ownBlock = some z → ¬ F6 z)) := Lib.hid ⟨hP6, HM.out.2.1, below_apt HM.out.2.2.1 ha6 HM.out.2.2.2.1 HM.out.2.2.1.size, fun z hz => (hn6 z hz).elim (HM.out.2.2.2.1 z) fun h => Nat.le_trans HM.out.2.2.1.size h, HM.out.2.2.2.2.1, HM.out.2.2.2.2.2.1.apt ha6 HM.out.2.2.2.2.2.2, fun z hz hf => (hn6 z hf).elim (HM.out.2.2.2.2.2.2 z hz) fun h => by
          have := HM.out.2.2.2.2.2.1.lt z hz
          omega⟩
        clear hP6 ha6 hn6 hC HM
        by_cases hle : l = []
        · subst hle
          have hD := HM6.out.2.1.done
          have HD := Lib.hid hD
          clear hD
          go_wp2_with fail
          go_ret
          exact ⟨_, _, rfl, HM6.out.2.2.2.2.2.1.lower HB1.out.size, HD.out, HB1.out.trans (HM6.out.2.2.1.mono HB1.out.size)⟩
        · obtain ⟨i, o, hF⟩ := isFirst_ex HR.out l hle fun y hy => (HM6.out.2.1.D y hy).1
          have ho := (HM6.out.2.1.D o (List.mem_of_getElem? hF.at_)).1
          obtain ⟨Ar, nr, cr, pr, lr⟩ := o
          obtain ⟨ho1, ho2, ho3⟩ := ho
          simp only at ho1 ho2 ho3
          obtain ⟨x, xs, rfl⟩ := List.exists_cons_of_ne_nil ho1
          rw [List.length_cons] at ho2
          subst ho2
          obtain ⟨gx, ox, rfl, hgx, hcx⟩ := ho3.cells (by omega) (i := 0) (x := teC x) rfl
          obtain ⟨m, hm⟩ : ∃ m, l.length = m + 1 := ⟨l.length - 1, by have := List.length_pos_iff.2 hle; omega⟩
          have hl0 : (0 : Int) < ((m + 1 : Nat) : Int) := by omega
          have hC := HK.out.pop HM6.out.1 HR.out (HO.out F6 w6 HM6.out.2.2.1 HM6.out.2.2.2.1) (fun y hy => (HM6.out.2.1.D y hy).1) hF (by have := HM6.out.2.1.few; omega)
          have HFI := Lib.hid hF
          have HO3 := Lib.hid ho3
          have hcw : ∀ u, Below w.heap.size w u → u.cell? ⟨gx, ox, none⟩ = some (.int .u64 x.t.id) ∧ u.cell? ⟨gx, ox + 1, none⟩ = some (.slice x.A x.n x.c) := fun u hu => ⟨(hu.cell (p := ⟨gx, _, none⟩) hgx).trans (by simpa using hcx 0 _ rfl), (hu.cell (p := ⟨gx, _, none⟩) hgx).trans (by simpa using hcx 1 _ rfl)⟩
          have HCW := Lib.hid hcw
          rw [hm]
          unfold krV at hC
          clear hF ho1 ho3 hcx hcw hle hm
          go_wp2_with fail
          refine hC.mono ?_
          rintro e w7 ⟨rfl, F7, hP7, ha7, hn7⟩
          have HM7 : Hid (HP w7 F7 g (.func (.func 35) #[] #[.pointer (some ⟨w.heap.size, 0, none⟩)]) (krR teR) n (l.eraseIdx i) ∧ Below w1.heap.size w1 w7 ∧ (∀ z, F7 z → w1.heap.size ≤ z) ∧ OwnL 2 w7 w1.heap.size 37 (.slice Ao out.length co) (out.map teC) ∧ (∀ z, (Value.slice Ao out.length co).ownBlock = some z → ¬ F7 z)) := Lib.hid ⟨hP7, below_apt HM6.out.2.2.1 ha7 HM6.out.2.2.2.1 HM6.out.2.2.1.size, fun z hz => (hn7 z hz).elim (HM6.out.2.2.2.1 z) fun h => Nat.le_trans HM6.out.2.2.1.size h, HM6.out.2.2.2.2.2.1.apt ha7 HM6.out.2.2.2.2.2.2, fun z hz hf => (hn7 z hf).elim (HM6.out.2.2.2.2.2.2 z hz) fun h => by
            have := HM6.out.2.2.2.2.2.1.lt z hz
            omega⟩
          clear hP7 ha7 hn7 hC
          have hkl : out.length + 1 ≤ 10000 ∧ out.length + 1 ≤ rows.flatten.length := by
            have h3 := (HM6.out.2.1.next teO HFI.out rfl).2.2.2.2.2.1
            have h4 := HFl.out
            rw [List.length_append, List.length_singleton] at h3
            omega
          have HKL := Lib.hid hkl
          have ha8 : Below w7.heap.size w7 (w7.alloc (.cells #[.slice (some ⟨gx, ox, none⟩) (xs.length + 1) cr, .int .i64 (pr : Int)] 75)) := (Below.refl _ _).alloc (Nat.le_refl _) _
          have ha9 : Below w7.heap.size w7 ((w7.alloc (.cells #[.slice (some ⟨gx, ox, none⟩) (xs.length + 1) cr, .int .i64 (pr : Int)] 75)).alloc (.cells #[.int .u64 x.t.id, .slice x.A x.n x.c] 37)) := ha8.alloc (by simp) _
          have hB8 := Blk.new w7 75 #[.slice (some ⟨gx, ox, none⟩) (xs.length + 1) cr, .int .i64 (pr : Int)]
          have y0 := hB8.cell 0
          have y1 := hB8.cell 1
          simp only [List.getElem?_toArray, List.getElem?_cons_zero, List.getElem?_cons_succ] at y0 y1
          obtain ⟨x0, x1⟩ := HCW.out _ (HB1.out.trans ((HM7.out.2.1.trans (ha8.mono HM7.out.2.1.size)).mono HB1.out.size))
          have hlit : Lv 2 ((w7.alloc (.cells #[.slice (some ⟨gx, ox, none⟩) (xs.length + 1) cr, .int .i64 (pr : Int)] 75)).alloc (.cells #[.int .u64 x.t.id, .slice x.A x.n x.c] 37)) (.slice (some ⟨w7.heap.size + 1, 0, none⟩) 1 1) [teC x] := by
            have h3 := Lv.lit1 (w := w7.alloc (.cells #[.slice (some ⟨gx, ox, none⟩) (xs.length + 1) cr, .int .i64 (pr : Int)] 75)) (teC x) 37
            rw [show (w7.alloc (.cells #[.slice (some ⟨gx, ox, none⟩) (xs.length + 1) cr, .int .i64 (pr : Int)] 75)).heap.size = w7.heap.size + 1 by simp] at h3
            exact h3
          have HLit := Lib.hid hlit
          clear hlit
          have HA9 := Lib.hid ha9
          have HB8 := Lib.hid (hB8.alloc (.cells #[.int .u64 x.t.id, .slice x.A x.n x.c] 37))
          have hx0 : (0 : Int) < ((xs.length + 1 : Nat) : Int) := by omega
          clear ha8 ha9 hB8 hkl
          go_wp2_with (at_builtin; refine wpList_append_elems _ teT rfl _ _ rfl w1.heap.size _ _ rfl (HM7.out.2.2.2.1.below HA9.out) _ _ rfl HLit.out (fun y hy => by rw [List.mem_singleton] at hy; subst hy; simp [teC, Value.oneCell']) (by simp only [maxLen, List.length_map, List.length_singleton]; have := HKL.out; omega) (by simp only [List.length_map, List.length_singleton]; have := HKL.out; omega) (Nat.le_trans HM7.out.2.1.size HA9.out.size) ?_)
          intro v9 w9 ho9 hg9 hv9
          have hap : Apt (fun z => (Value.slice Ao out.length co).ownBlock = some z) w7 w9 := (Apt.of_below HA9.out).trans (Apt.of_grown hg9 fun z hz => hz)
          have hth := HK.out.thing g (.func (.func 35) #[] #[.pointer (some ⟨w.heap.size, 0, none⟩)]) (krR teR) n (l.eraseIdx i)
          have hm9 : HP w9 F7 g (.func (.func 35) #[] #[.pointer (some ⟨w.heap.size, 0, none⟩)]) (krR teR) n (l.eraseIdx i) := hth.keep HM7.out.1 (hap.mono fun q _ hq hF => HM7.out.2.2.2.2 q hq hF)
          have hb9 : Below w1.heap.size w1 w9 := (HM7.out.2.1.trans (HA9.out.mono HM7.out.2.1.size)).grown hg9 (Nat.le_trans HM7.out.2.1.size HA9.out.size) fun z hz => HM7.out.2.2.2.1.ge z hz
          have ho9' : OwnL 2 w9 w1.heap.size 37 v9 ((out ++ [x]).map teC) := by
            rw [List.map_append]
            exact ho9
          have hnf : ∀ z, v9.ownBlock = some z → ¬ F7 z := fun z hz hF => by
            rcases hv9 with h3 | h3
            · exact HM7.out.2.2.2.2 z (h3.symm.trans hz) hF
            · have h4 := hth.lt HM7.out.1 z hF
              have h5 := HA9.out.size
              rw [hz] at h3
              injection h3 with h3
              omega
          have hB9 := HB8.out.grown hg9 fun e => by
            have := HM7.out.2.2.2.1.lt _ e.symm
            omega
          have z0 := hB9.cell 0
          have z1 := hB9.cell 1
          simp only [List.getElem?_toArray, List.getElem?_cons_zero, List.getElem?_cons_succ] at z0 z1
          have HM9 : Hid (HP w9 F7 g (.func (.func 35) #[] #[.pointer (some ⟨w.heap.size, 0, none⟩)]) (krR teR) n (l.eraseIdx i) ∧ Below w1.heap.size w1 w9 ∧ OwnL 2 w9 w1.heap.size 37 v9 ((out ++ [x]).map teC) ∧ ∀ z, v9.ownBlock = some z → ¬ F7 z) := Lib.hid ⟨hm9, hb9, ho9', hnf⟩
          have hsl := kwTail_T HO3.out
          obtain ⟨A', hsU, hlU⟩ := hsl
          have HLU := Lib.hid hlU
          clear ho9 hg9 hv9 hap hth hm9 hb9 ho9' hnf hB9 y0 y1 x0 x1 hlU
          generalize hnx : xs.length = nx at *
          have HNX := Lib.hid hnx
          clear hnx
          cases xs with
          | nil =>
            have hn0 : ¬ 0 < nx := by have := HNX.out; rw [List.length_nil] at this; omega
            have hI := HM6.out.2.1.last teO HFI.out rfl
            have HI := Lib.hid hI
            obtain ⟨gk1, hgk1⟩ : ∃ x, gk = x + 1 := ⟨gk - 1, by have := HKL.out; omega⟩
            clear hI
            go_wp2_with fail
            go_roundg gk1
            case measure => omega
            case rel => exact ⟨n, F7, _, _, out ++ [x], by rw [List.length_append, List.length_singleton]; omega, Lib.hid ⟨HM9.out.1, HI.out, HM9.out.2.1, HM7.out.2.2.1, by have := HM6.out.2.2.2.2.1; rw [List.length_append, List.length_singleton]; omega, HM9.out.2.2.1, HM9.out.2.2.2⟩⟩
          | cons y ys =>
            have hD' : krD 2 teC w (⟨A', nx, cr - 1, pr, y :: ys⟩ : Kr Te) := ⟨by simp, HNX.out.symm, HLU.out⟩
            have hI := HM6.out.2.1.again (o' := ⟨A', nx, cr - 1, pr, y :: ys⟩) teO HFI.out rfl rfl hD'
            have HI := Lib.hid hI
            have hC := HK.out.push (x := (⟨A', nx, cr - 1, pr, y :: ys⟩ : Kr Te)) HM9.out.1 HR.out (HO.out F7 w9 HM9.out.2.1 HM7.out.2.2.1) (fun o ho => (HM6.out.2.1.D o (List.mem_of_mem_eraseIdx ho)).1) hD' (by have h3 := HM6.out.2.1.few; have h4 := (HM6.out.2.1.next teO HFI.out rfl).2.2.2.2.2.2.2; omega) (by have h3 := HM6.out.2.2.2.2.1; have h4 := HKL.out; omega)
            obtain ⟨gk1, hgk1⟩ : ∃ x, gk = x + 1 := ⟨gk - 1, by have := HKL.out; omega⟩
            have hn0 : 0 < nx := by have := HNX.out; rw [List.length_cons] at this; omega
            unfold krV at hC
            clear hI hD'
            go_wp2_with fail
            refine hC.mono ?_
            rintro e w10 ⟨rfl, F10, hP10, ha10, hn10⟩
            have HM10 : Hid (HP w10 F10 g (.func (.func 35) #[] #[.pointer (some ⟨w.heap.size, 0, none⟩)]) (krR teR) (n + 1) (l.eraseIdx i ++ [⟨A', nx, cr - 1, pr, y :: ys⟩]) ∧ Below w1.heap.size w1 w10 ∧ (∀ z, F10 z → w1.heap.size ≤ z) ∧ OwnL 2 w10 w1.heap.size 37 v9 ((out ++ [x]).map teC) ∧ (∀ z, v9.ownBlock = some z → ¬ F10 z)) := Lib.hid ⟨hP10, below_apt HM9.out.2.1 ha10 HM7.out.2.2.1 HM9.out.2.1.size, fun z hz => (hn10 z hz).elim (HM7.out.2.2.1 z) fun h => Nat.le_trans HM9.out.2.1.size h, HM9.out.2.2.1.apt ha10 HM9.out.2.2.2, fun z hz hf => (hn10 z hf).elim (HM9.out.2.2.2 z hz) fun h => by
              have := HM9.out.2.2.1.lt z hz
              omega⟩
            clear hP10 ha10 hn10 hC
            go_wp2_with fail
            go_roundg gk1
            case measure => omega
            case rel => exact ⟨n + 1, F10, _, _, out ++ [x], by rw [List.length_append, List.length_singleton]; omega, Lib.hid ⟨HM10.out.1, HI.out, HM10.out.2.1, HM10.out.2.2.1, by have := HM6.out.2.2.2.2.1; rw [List.length_append, List.length_singleton]; omega, HM10.out.2.2.2.1, HM10.out.2.2.2.2⟩⟩
end Go.Proofs.Ytpanpebllapbcaa

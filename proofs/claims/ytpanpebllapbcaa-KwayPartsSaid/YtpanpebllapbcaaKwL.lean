/-
  CONTRACT of the program's kway.Merge (MergeK), over any heap of rows that keeps what is asked of it. Conditions: what MergeK says.
  CONTRACT of the program's kway.Merge (MergeK), over any heap of rows that keeps what is asked of it. Conditions: what MergeK says.
-/
import Derived.Test.YtpanpebllapbcaaKwK
import Derived.Test.YtpanpebllapbcaaKwJb
import Derived.Test.YtpanpebllapbcaaKwD
import Derived.Test.YtpanpebllapbcaaAccF
import Derived.Deep.DeepCutAuto
namespace Go.Proofs.Ytpanpebllapbcaa
open Go.RowKit
set_option maxRecDepth 100000

theorem te_rows {w : World} {v : Value} {rows : List (List Tn)} (h : Sls TsV w v rows) : ∃ E : List (List Te), E.map (fun r => r.map (·.t)) = rows ∧ Sls TeV w v E ∧ ∀ r ∈ E, ∀ e ∈ r, teOK w e := by
  obtain ⟨xs, h1, h2⟩ := h
  obtain ⟨cs, rfl, rfl⟩ := Two.lift (γ := {p : List Te × Value // TeV w p.1 p.2 ∧ ∀ e ∈ p.1, teOK w e}) (f := fun p => p.1.1.map (·.t)) (g := fun p => [p.1.2]) (fun r x ⟨d, hx, hd⟩ => by
    obtain ⟨re, e1, e2, e3⟩ := te_of_ts hd
    exact ⟨⟨(re, d), e2, e3⟩, e1, hx.symm⟩) h2
  refine ⟨cs.map (·.1.1), by rw [List.map_map]; rfl, ⟨_, h1, Two.ofMap (fun p : {p : List Te × Value // TeV w p.1 p.2 ∧ ∀ e ∈ p.1, teOK w e} => p.1.1) (fun p => [p.1.2]) cs fun p _ => ⟨_, rfl, p.2.1⟩⟩, fun r hr => ?_⟩
  obtain ⟨c, _, rfl⟩ := List.mem_map.1 hr
  exact c.2.2
theorem te_cells {w : World} {A : Option Addr} {n c : Nat} {es : List Te} (h : Lv 2 w (.slice A n c) (es.map teC)) {i : Nat} {e : Te} (hi : es[i]? = some e) : ∃ g o, A = some ⟨g, o, none⟩ ∧ g < w.heap.size ∧ w.cell? ⟨g, o + i * 2, none⟩ = some (.int .u64 e.t.id) := by
  obtain ⟨g, o, hA, hg, hc⟩ := h.cells (by omega) (i := i) (x := teC e) (by rw [List.getElem?_map, hi]; rfl)
  exact ⟨g, o, hA, hg, by simpa using hc 0 _ rfl⟩
theorem te_form {w : World} {v : Value} {es : List Te} (h : Lv 2 w v (es.map teC)) : ∃ A c, v = .slice A es.length c ∧ es.length ≤ c ∧ c ≤ 9223372036854775807 := by
  obtain ⟨A, c, hv, h1, h2⟩ := h.form
  rw [List.length_map] at hv h1
  exact ⟨A, c, hv, h1, h2⟩

set_option maxHeartbeats 1600000 in
theorem ofOne_any (v : Value) (x : Te) (es : List Te) (w : World) (h : Lv 2 w v ((x :: es).map teC)) :
    Calls Try.prog 19 #[v] w fun e w' => (∃ k : Nat, e = .returned (.int .i64 (k : Int)) ∧ 1 ≤ k ∧ k ≤ es.length + 1 ∧ (∀ t ∈ (x :: es).take k, t.t.id = x.t.id) ∧ ∀ t, ((x :: es).drop k).head? = some t → t.t.id ≠ x.t.id) ∧ Below w.heap.size w w' := by
  obtain ⟨A, c, rfl, hc1, hc2⟩ := te_form h
  have H := Lib.hid h
  have HNX : Hid ((x :: es).length = es.length + 1) := Lib.hid rfl
  rw [List.length_cons] at hc1
  clear h
  generalize hL : x :: es = L at *
  have hn : L.length = es.length + 1 := HNX.out
  rw [hn]
  rw [hn] at H
  have H0 : Hid (L[0]? = some x) := Lib.hid (by rw [← hL]; rfl)
  generalize es.length = n at *
  clear hL hn
  go_enter Try.func19, Try.ntmps19
  go_wp2_with fail
  go_loopg [3] n (fun gk kv wr => ∃ (k : Nat), (k + 1) + gk = n + 1 ∧ kv = .int .i64 ((k : Int) + 1) ∧ Hid (Below w.heap.size w wr ∧ ∀ t ∈ L.take (k + 1), t.t.id = x.t.id))
  case atStart => exact ⟨0, by omega, by first | rfl | go_num, Lib.hid ⟨Below.refl _ _, fun t ht => by
    rw [take_snoc_at H0.out] at ht
    simp at ht
    rw [ht]⟩⟩
  case round =>
    obtain ⟨k, hkg, rfl, HM⟩ := hrel
    by_cases hlt : k + 1 < n + 1
    · obtain ⟨gk1, hgk1⟩ : ∃ x, gk = x + 1 := ⟨gk - 1, by omega⟩
      obtain ⟨y, hy⟩ : ∃ y, L[k + 1]? = some y := ⟨_, List.getElem?_eq_getElem (by rw [HNX.out]; omega)⟩
      have hlv := H.out.below HM.out.1
      obtain ⟨g, o, rfl, hg, c0⟩ := te_cells hlv H0.out
      obtain ⟨_, _, hA, _, c1⟩ := te_cells hlv hy
      injection hA with hA
      injection hA with e1 e2
      subst e1 e2
      have HY := Lib.hid hy
      have b0 : (0 : Int) ≤ (k : Int) + 1 := by omega
      have b1 : (k : Int) + 1 < (n : Int) + 1 := by omega
      have b2 : (0 : Int) < (n : Int) + 1 := by omega
      simp only [Nat.zero_mul, Nat.add_zero] at c0
      clear hy hlv
      by_cases he : y.t.id = x.t.id
      · have hb : (y.t.id == x.t.id) = true := by simpa using he
        have HT : Hid (∀ t ∈ L.take (k + 1 + 1), t.t.id = x.t.id) := Lib.hid fun t ht => by
          rw [take_snoc_at HY.out] at ht
          rcases List.mem_append.1 ht with ht | ht
          · exact HM.out.2 t ht
          · simp at ht
            rw [ht]
            exact he
        clear he
        go_wp2_with fail
        go_quiet (fail)
        go_wp2_with fail
        go_roundg gk1
        case measure => omega
        case rel => exact ⟨k + 1, by omega, by go_num, Lib.hid ⟨below_drewN HM.out.1 _, HT.out⟩⟩
      · have hb : (y.t.id == x.t.id) = false := by simpa using he
        have HE : Hid (∀ t, (L.drop (k + 1)).head? = some t → t.t.id ≠ x.t.id) := Lib.hid fun t ht => by
          rw [List.head?_drop, HY.out] at ht
          injection ht with ht
          subst ht
          exact he
        clear he
        go_wp2_with fail
        go_quiet (fail)
        go_wp2_with fail
        go_ret
        exact ⟨⟨k + 1, by first | rfl | go_num, by omega, by omega, HM.out.2, HE.out⟩, below_drewN HM.out.1 _⟩
    · have hkn : k = n := by omega
      subst hkn
      have HE : Hid (∀ t, (L.drop (k + 1)).head? = some t → t.t.id ≠ x.t.id) := Lib.hid fun t ht => by
        rw [List.drop_eq_nil_of_le (by rw [HNX.out]; omega)] at ht
        simp at ht
      have b1 : ¬ (k : Int) + 1 < (k : Int) + 1 := by omega
      go_wp2_with fail
      go_quiet (fail)
      go_wp2_with fail
      go_ret
      exact ⟨⟨k + 1, by first | rfl | go_num, by omega, by omega, HM.out.2, HE.out⟩, below_drewN HM.out.1 _⟩
end Go.Proofs.Ytpanpebllapbcaa

namespace Go.Proofs.Ytpanpebllapbcaa
open Go.RowKit
set_option maxRecDepth 100000

theorem takeT {rows : List (List Tn)} {k : Nat} {r : List Tn} (h : ∀ x ∈ rows.take k, IsT x) (hr : rows[k]? = some r) (hi : IsT r) : ∀ x ∈ rows.take (k + 1), IsT x := fun x hx => by
  rw [take_snoc_at hr] at hx
  rcases List.mem_append.1 hx with hx | hx
  · exact h x hx
  · simp at hx
    rw [hx]
    exact hi
theorem flatR_flat : ∀ rows : List (List Tn), flatR rows = flatT rows.flatten
  | [] => rfl
  | r :: l => by
    have ih := flatR_flat l
    simp only [flatR, List.flatMap_cons, List.flatten_cons, flatT_append] at ih ⊢
    rw [ih]
theorem MgL.len {rows : List (List Tn)} {L : List Tn} (h : MgL rows L) : (flatT L).length = (flatR rows).length := by
  rw [flatR_flat]
  exact (List.Perm.flatMap_right _ h.perm).length_eq
/-- the first ones of what is left, and the others -/
theorem MgI.cut {L : List Tn} {p q : List Te} {res : List Tn} (h : MgI L (p.map (·.t)) (q.map (·.t)) res) (k : Nat) : MgI L (p.map (·.t)) ((q.take k).map (·.t) ++ (q.drop k).map (·.t)) res := by
  rw [← List.map_append, List.take_append_drop]
  exact h
theorem MgI.few {rows : List (List Tn)} {L p q1 q2 res : List Tn} (h : MgI L p (q1 ++ q2) res) (hL : MgL rows L) : (flatT q1).length ≤ (flatR rows).length ∧ ∀ s ∈ flatT q1, s ∈ flatR rows := by
  refine ⟨?_, fun s hs => ?_⟩
  · rw [← hL.len, h.eq, flatT_append, flatT_append, List.length_append, List.length_append]
    omega
  · rw [← hL.mem, h.eq, flatT_append, flatT_append]
    exact List.mem_append_right _ (List.mem_append_left _ hs)
theorem rows_few {rows : List (List Tn)} (hI : ∀ r ∈ rows, IsT r) : rows.flatten.length ≤ (flatR rows).length := by
  have key : ∀ l : List Tn, (∀ t ∈ l, t.sp ≠ []) → l.length ≤ (flatT l).length := by
    intro l
    induction l with
    | nil => intro _; simp
    | cons t l ih =>
      intro h
      have h1 := ih fun x hx => h x (List.mem_cons_of_mem _ hx)
      have h2 := List.length_pos_iff.2 (h t (List.mem_cons_self ..))
      simp only [flatT, List.flatMap_cons, List.length_append, List.length_cons] at h1 ⊢
      omega
  rw [flatR_flat]
  refine key _ fun t ht => ?_
  obtain ⟨r, hr, htr⟩ := List.mem_flatten.1 ht
  exact ((hI r hr).own htr).1
theorem mgL_of {rows : List (List Tn)} {E : List (List Te)} {out : List Te} (hE : E.map (fun r => r.map (·.t)) = rows) (hI : ∀ r ∈ rows, IsT r) (h : Merged teR E out) : MgL rows (out.map (·.t)) := by
  have hp : (out.map (·.t)).Perm rows.flatten := by
    have := h.perm.map (·.t)
    rw [List.map_flatten] at this
    rw [← hE]
    exact this
  refine ⟨hp, ?_, fun t ht => ?_⟩
  · rw [List.pairwise_map]
    refine h.rise.imp fun h => ?_
    simp only [teR, decide_eq_false_iff_not] at h
    omega
  · obtain ⟨r, hr, htr⟩ := List.mem_flatten.1 (hp.mem_iff.1 ht)
    exact (hI r hr).own htr
theorem teE_rise {rows : List (List Tn)} {E : List (List Te)} (hE : E.map (fun r => r.map (·.t)) = rows) (hI : ∀ r ∈ rows, IsT r) : ∀ r ∈ E, r.Pairwise fun a b => teR b a = false := fun r hr => by
  have h := (hI (r.map (·.t)) (by rw [← hE]; exact List.mem_map.2 ⟨r, hr, rfl⟩)).rise
  rw [List.pairwise_map] at h
  refine h.imp fun h => ?_
  simp only [teR, decide_eq_false_iff_not]
  omega
theorem gat_len_le {l g : List Sn} (h : Gat l g) : g.length ≤ l.length := h.len

set_option maxHeartbeats 6400000 in
theorem mergeK {HP : World → (Nat → Prop) → Nat → Value → (KrT → KrT → Bool) → Nat → List KrT → Prop} (hK : HeapKrT HP) : MergeK := by
  intro w v rows h h1 h2 h3 h4
  have H := Lib.hid h
  have HK : Hid (HeapKrT HP) := Lib.hid hK
  have H3 := Lib.hid h3
  have H4 := Lib.hid h4
  obtain ⟨A, c, rfl, hc1, hc2⟩ := h.form
  clear h h2 h3 h4 hK
  go_enter Try.func8, Try.ntmps8
  go_wp2_with fail
  go_loopg [5, 12] rows.length (fun gk _ iv wr => ∃ (k : Nat), k + gk = rows.length ∧ iv = .int .i64 (k : Int) ∧ Hid (Below w.heap.size w wr ∧ ∀ r ∈ rows.take k, IsT r))
  case atStart => exact ⟨0, by omega, rfl, Lib.hid ⟨Below.refl _ _, fun r hr => absurd hr (by simp)⟩⟩
  case round =>
    obtain ⟨k, hkg, rfl, HM⟩ := hrel
    by_cases hlt : k < rows.length
    · obtain ⟨gk1, hgk1⟩ : ∃ x, gk = x + 1 := ⟨gk - 1, by omega⟩
      obtain ⟨r, hr⟩ : ∃ r, rows[k]? = some r := ⟨_, List.getElem?_eq_getElem hlt⟩
      obtain ⟨g0, o0, d0, rfl, hg0, hc0, hd0⟩ := H.out.cell hr
      have x0 := (HM.out.1.cell (p := ⟨g0, o0 + k, none⟩) hg0).trans hc0
      have hcall := is_any d0 r wr (Ts.below hd0 HM.out.1)
      have HR := Lib.hid hr
      have a0 : (0 : Int) ≤ (k : Int) := by omega
      have a1 : (k : Int) < (rows.length : Int) := by omega
      clear hr hc0 hd0
      generalize hib : isB r = ib at hcall
      have HIB := Lib.hid hib
      clear hib
      go_wp2_with fail
      refine hcall.mono ?_
      rintro e w2 ⟨rfl, hb2⟩
      have HB2 : Hid (Below w.heap.size w w2) := Lib.hid (HM.out.1.trans (hb2.mono HM.out.1.size))
      clear hb2 hcall
      cases ib with
      | false =>
        have HNI : Hid (¬ IsT r) := Lib.hid fun hi => by
          have := HIB.out
          rw [isB_true hi] at this
          cases this
        go_wp2_with fail
        go_ret2
        exact ⟨_, _, rfl, .inr (.inl ⟨rfl, ⟨r, List.mem_of_getElem? HR.out, HNI.out⟩, _, _, rfl⟩), HB2.out⟩
      | true =>
        have HT : Hid (∀ x ∈ rows.take (k + 1), IsT x) := Lib.hid (takeT HM.out.2 HR.out (by
          by_cases hi : IsT r
          · exact hi
          · have := HIB.out
            rw [isB_false hi] at this
            cases this))
        go_wp2_with fail
        go_roundg gk1
        case measure => omega
        case rel => exact ⟨k + 1, by omega, by go_num, Lib.hid ⟨HB2.out, HT.out⟩⟩
    · have hkn : k = rows.length := by omega
      subst hkn
      have hI : ∀ r ∈ rows, IsT r := fun r hr => HM.out.2 r (by rw [List.take_length]; exact hr)
      have HI := Lib.hid hI
      have hsl := sls_ts_below H.out HM.out.1
      obtain ⟨E, hE, hsE, hEo⟩ := te_rows hsl
      have hEl : E.flatten.length ≤ 10000 := by
        have e1 := rows_few hI
        have e2 := H3.out
        have e3 : rows.flatten.length = E.flatten.length := by
          rw [← hE]
          simp only [List.length_flatten, List.map_map]
          congr 1
          exact List.map_congr_left fun r _ => by simp
        omega
      have hEn : E.length ≤ 1000 := by
        have := congrArg List.length hE
        rw [List.length_map] at this
        omega
      have hcall := kwSorted_T HK.out hsE (teE_rise hE hI) hEl hEn
      have HE := Lib.hid hE
      have HEo := Lib.hid hEo
      have HEl := Lib.hid hEl
      have HW := Lib.hid HM.out.1
      obtain ⟨w1, hw1⟩ : ∃ u, u = wr := ⟨_, rfl⟩
      subst hw1
      clear hI hsl hE hsE hEo hEl hEn HM
      go_wp2_with fail
      refine hcall.mono ?_
      rintro e w2 ⟨s, out, rfl, ho2, hmg, hb2⟩
      have hL := mgL_of HE.out HI.out hmg
      have hok : ∀ e ∈ out, teOK w2 e := fun e he => by
        obtain ⟨r, hr, her⟩ := List.mem_flatten.1 (hmg.perm.mem_iff.1 he)
        exact (HEo.out r hr e her).below hb2
      have hol : out.length ≤ 10000 := by
        rw [hmg.len]
        exact HEl.out
      have HL := Lib.hid hL
      have HOk := Lib.hid hok
      have HOl := Lib.hid hol
      have HS2 := Lib.hid ho2.lv
      have HB2 : Hid (Below w.heap.size w w2) := Lib.hid (HW.out.trans (hb2.mono HW.out.size))
      clear ho2 hmg hL hok hol hb2 hcall
      go_wp2_with fail
      go_loopg [6, 7, 8, 9] out.length (fun gk av rv _ _ wr => ∃ (p q : List Te) (res : List Tn), q.length ≤ gk ∧ Hid (out = p ++ q ∧ Lv 2 w2 av (q.map teC) ∧ MgI (out.map (·.t)) (p.map (·.t)) (q.map (·.t)) res ∧ (∀ t ∈ res, t.sp.length ≤ 100) ∧ OwnK 2 wr w2.heap.size 37 (fun _ => False) TnC rv res ∧ Below w2.heap.size w2 wr))
      case atStart => exact ⟨[], out, [], Nat.le_refl _, Lib.hid ⟨rfl, HS2.out, MgI.start _, fun t ht => absurd ht (by simp), OwnK.nil _ _ _ _ _ _, Below.refl _ _⟩⟩
      case round =>
        obtain ⟨p, q, res, hqg, HM⟩ := hrel
        have hf := te_form HM.out.2.1
        obtain ⟨Aq, cq, hqv, hcq1, hcq2⟩ := hf
        subst hqv
        have hf2 := HM.out.2.2.2.2.1.form
        obtain ⟨Ar, cr, hrv, hcr1, hcr2⟩ := hf2
        subst hrv
        have HBw : Hid (Below w.heap.size w wr) := Lib.hid (HB2.out.trans (HM.out.2.2.2.2.2.mono HB2.out.size))
        cases q with
        | nil =>
          have hG : ∃ g, Grp (flatR rows) g ∧ (∀ t ∈ g, t.sp.length ≤ 100) ∧ Ts wr (.slice Ar res.length cr) g := ⟨res, HM.out.2.2.1.done HL.out, HM.out.2.2.2.1, HM.out.2.2.2.2.1.ts⟩
          have HG := Lib.hid hG
          clear hG
          go_wp2_with fail
          go_ret2
          exact ⟨_, _, rfl, .inl ⟨rfl, HI.out, HG.out⟩, HBw.out⟩
        | cons x q =>
          as_aux_lemma =>
            obtain ⟨gk1, hgk1⟩ : ∃ x, gk = x + 1 := ⟨gk - 1, by rw [List.length_cons] at hqg; omega⟩
            have hq0 : (0 : Int) < (((x :: q).length : Nat) : Int) := by rw [List.length_cons]; omega
            have hcall := ofOne_any _ x q wr (Lv.below HM.out.2.1 HM.out.2.2.2.2.2)
            rw [List.length_cons] at hcall hcq1 hq0 HM ⊢
            go_wp2_with fail
            refine hcall.mono ?_
            rintro e w3 ⟨⟨k, rfl, hk1, hk2, hk3, hk4⟩, hb3⟩
            have hw3 : Below w2.heap.size w2 w3 := HM.out.2.2.2.2.2.trans (hb3.mono HM.out.2.2.2.2.2.size)
            have hlv3 := HM.out.2.1
            obtain ⟨V, hsV, hV⟩ := hlv3.cut_upto teT rfl k hk2
            obtain ⟨U, hsU, hU⟩ := hlv3.cut_from teT rfl k hk2
            rw [← List.map_take] at hV
            rw [← List.map_drop] at hU
            have hmem : ∀ e ∈ x :: q, e ∈ out := fun e he => by
              rw [HM.out.1]
              exact List.mem_append_right _ he
            have hts : Ts w3 V (((x :: q).take k).map (·.t)) := Ts.of_te (Lv.below hV hw3) fun e he => (HOk.out e (hmem e (List.mem_of_mem_take he))).below hw3
            have hI0 := HM.out.2.2.1.cut k
            have hfew := hI0.few HL.out
            have hx1 : ∀ t ∈ ((x :: q).take k).map (·.t), t.id = x.t.id := fun t ht => by
              obtain ⟨e, he, rfl⟩ := List.mem_map.1 ht
              exact hk3 e he
            have hne1 : ((x :: q).take k).map (·.t) ≠ [] := by
              rw [show k = (k - 1) + 1 by omega, List.take_succ_cons, List.map_cons]
              simp
            have hq1 : ∀ t, (((x :: q).drop k).map (·.t)).head? = some t → t.id ≠ x.t.id := fun t ht => by
              rw [List.head?_map] at ht
              cases hd : ((x :: q).drop k).head? with
              | none => rw [hd] at ht; cases ht
              | some e =>
                rw [hd] at ht
                injection ht with ht
                subst ht
                exact hk4 e hd
            have hqk : ((x :: q).drop k).length ≤ gk1 := by
              rw [List.length_drop, List.length_cons]
              rw [List.length_cons] at hqg
              omega
            have htl : (((x :: q).take k).map (·.t)).length ≤ 10000 := by
              rw [List.length_map, List.length_take, List.length_cons]
              have e1 := congrArg List.length HM.out.1
              rw [List.length_append, List.length_cons] at e1
              have := HOl.out
              omega
            have hdat : ∀ s ∈ flatT (((x :: q).take k).map (·.t)), s.data.length ≤ 1000000 := fun s hs => by
              have := H4.out s (hfew.2 s hs)
              omega
            have hflat := flat_any V _ w3 hts (by have := hfew.1; have := H3.out; omega) (by omega) hdat
            have hI := Lib.hid (And.intro hI0 (And.intro hx1 (And.intro hne1 hq1)))
            have HFew := Lib.hid hfew
            have HDat := Lib.hid hdat
            have HQK := Lib.hid hqk
            have HB3 := Lib.hid hb3
            have HU := Lib.hid hU
            have HL3 := Lib.hid hlv3
            have HK12 := Lib.hid (And.intro hk1 hk2)
            clear hw3 hlv3 hV hU hmem hts hI0 hfew hx1 hne1 hq1 hk3 hk4 hqk htl hdat hb3
            go_wp2_with fail
            refine hflat.mono ?_
            rintro e w4 ⟨fv, rfl, hf4, hb4⟩
            have hgat := gather_new fv _ w4 hf4.ss (by have := HFew.out.1; have := H3.out; omega) HDat.out
            have HB4 := Lib.hid hb4
            clear hf4 hb4 hflat
            go_wp2_with fail
            refine hgat.mono ?_
            rintro e w5 ⟨sv, g, rfl, hac, hg, hb5⟩
            have HB5 : Hid (Below wr.heap.size wr w5) := Lib.hid (HB3.out.trans ((HB4.out.trans (hb5.mono HB4.out.size)).mono HB3.out.size))
            have HB35 : Hid (Below w3.heap.size w3 w5) := Lib.hid (HB4.out.trans (hb5.mono HB4.out.size))
            have HAc := Lib.hid hac
            have HG := Lib.hid hg
            have H4L : Hid (wr.heap.size ≤ w4.heap.size) := Lib.hid (Nat.le_trans HB3.out.size HB4.out.size)
            have hsf := hac.ss.form
            obtain ⟨As, cs, hsv, hcs1, hcs2⟩ := hsf
            subst hsv
            have HB25 : Hid (Below w2.heap.size w2 w5) := Lib.hid (HM.out.2.2.2.2.2.trans (HB5.out.mono HM.out.2.2.2.2.2.size))
            have HBw5 : Hid (Below w.heap.size w w5) := Lib.hid (HBw.out.trans (HB5.out.mono HBw.out.size))
            clear hac hg hb5 hgat
            by_cases hbig : 100 < g.length
            · have HLg := Lib.hid (MgI.large hI.out.1 HL.out hI.out.2.1 hI.out.2.2.1 hI.out.2.2.2 HG.out hbig)
              go_wp2_with fail
              go_ret2
              exact ⟨_, _, rfl, .inr (.inr ⟨rfl, HI.out, HLg.out, _, _, rfl⟩), HBw5.out⟩
            · have hst := MgI.step hI.out.1 HL.out hI.out.2.1 hI.out.2.2.1 hI.out.2.2.2 HG.out
              rw [← List.map_append] at hst
              have HSt := Lib.hid hst
              have hsm : ∀ t ∈ res ++ [⟨x.t.id, g⟩], t.sp.length ≤ 100 := fun t ht => by
                rcases List.mem_append.1 ht with ht | ht
                · exact HM.out.2.2.2.1 t ht
                · simp at ht
                  subst ht
                  exact Nat.not_lt.1 hbig
              have HSm := Lib.hid hsm
              obtain ⟨gq, oq, rfl, hgq, c0⟩ := te_cells (Lv.below HL3.out HB25.out) (i := 0) (e := x) rfl
              simp only [Nat.zero_mul, Nat.add_zero] at c0
              have hid := (HOk.out x (by rw [HM.out.1]; exact List.mem_append_right _ (List.mem_cons_self ..))).1
              have hrl := HM.out.2.2.2.2.1.lt
              have hKd : Keep (fun q => False ∨ (Value.slice Ar res.length cr).ownBlock = some q) (fun u => TnC u ⟨x.t.id, g⟩ [.int .u64 x.t.id, .slice As g.length cs]) w5 := fun u ha => ⟨hid, _, rfl, (HAc.out.keep (bad := fun q => False ∨ (Value.slice Ar res.length cr).ownBlock = some q) fun q hq => by
                rcases hq with hq | hq
                · cases hq
                · have h5 := (hrl q hq).2
                  have h6 := H4L.out
                  omega) u ha⟩
              have ha1 : Below w5.heap.size w5 (w5.alloc (.cells #[.int .u64 x.t.id, .slice As g.length cs] 37)) := (Below.refl _ _).alloc (Nat.le_refl _) _
              have HO6 := Lib.hid ((HM.out.2.2.2.2.1.below HB5.out).below ha1)
              have HK6 := Lib.hid (hKd.below ha1)
              have HLV := Lib.hid (Lv.lit1 (w := w5) [.int .u64 x.t.id, .slice As g.length cs] 37)
              have HB26 : Hid (Below w2.heap.size w2 (w5.alloc (.cells #[.int .u64 x.t.id, .slice As g.length cs] 37))) := Lib.hid (HM.out.2.2.2.2.2.trans ((HB5.out.trans (ha1.mono HB5.out.size)).mono HM.out.2.2.2.2.2.size))
              have HRL : Hid (∀ q, (Value.slice Ar res.length cr).ownBlock = some q → w2.heap.size ≤ q) := Lib.hid fun q hq => (hrl q hq).1
              have hrn : res.length ≤ 1000000000 := by
                have e1 := HM.out.2.2.1.grp.len
                have e2 : (flatT (p.map (·.t))).length ≤ (flatT (out.map (·.t))).length := by
                  rw [HM.out.2.2.1.eq, flatT_append, List.length_append]
                  omega
                have e3 := HL.out.len
                have e4 := H3.out
                omega
              clear hst hsm hid hrl hKd ha1
              go_wp2_with (at_builtin; refine wpList_append_K teT rfl _ _ rfl rfl HO6.out rfl HLV.out HK6.out (by simp [Value.oneCell']) hrn (by decide) HB26.out.size ?_)
              intro v7 w7 hO7 hg7 hv7
              have HB7 : Hid (Below w2.heap.size w2 w7) := Lib.hid (HB26.out.grown hg7 HB26.out.size fun q hq => HRL.out q hq)
              have HO7 := Lib.hid hO7
              clear hO7 hg7 hv7
              go_wp2_with fail
              go_roundg gk1
              case measure => omega
              case rel => exact ⟨p ++ (x :: q).take k, (x :: q).drop k, res ++ [⟨x.t.id, g⟩], HQK.out, Lib.hid ⟨by rw [List.append_assoc, List.take_append_drop]; exact HM.out.1, HU.out, HSt.out, HSm.out, HO7.out, HB7.out⟩⟩
end Go.Proofs.Ytpanpebllapbcaa

/-
  CONTRACT of the program's kway.Merge (MergeK), over any heap of rows that keeps what is asked of it. Conditions: what MergeK says.
-/
import Derived.Test.YtpanpebllapbcaaKwK
import Derived.Test.YtpanpebllapbcaaKwJb
import Derived.Test.YtpanpebllapbcaaKwD
import Derived.Test.YtpanpebllapbcaaAccF
namespace Go.Proofs.Ytpanpebllapbcaa
open Go.RowKit
set_option maxRecDepth 100000

theorem te_rows {w : World} {v : Value} {rows : List (List Tn)} (h : Sls TsV w v rows) : ∃ E : List (List Te), E.map (fun r => r.map (·.t)) = rows ∧ Sls TeV w v E ∧ ∀ r ∈ E, ∀ e ∈ r, teOK w e := by
  obtain ⟨xs, h1, h2⟩ := h
  obtain ⟨cs, rfl, rfl⟩ := Two.lift (γ := {p : List Te × Value // TeV w p.1 p.2 ∧ ∀ e ∈ p.1, teOK w e}) (f := fun p => p.1.1.map (·.t)) (g := fun p => [p.1.2]) (fun r x ⟨d, hx, hd⟩ => by
    obtain ⟨re, e1, e2, e3⟩ := te_of_ts hd
    exact ⟨⟨(re, d), e2, e3⟩, e1, hx.symm⟩) h2
  refine ⟨cs.map (·.1.1), by rw [List.map_map]; rfl, ⟨_, h1, Two.ofMap (fun p : {p : List Te × Value // TeV w p.1 p.2 ∧ ∀ e ∈ p.1, teOK w e} => p.1.1) (fun p => [p.1.2]) cs fun p _ => ⟨_, rfl, p.2.1⟩⟩, fun r hr => ?_⟩
  obtain ⟨c, _, rfl⟩ := List.mem_map.1 hr
  exact c.2.2
theorem te_cells {w : World} {A : Option Addr} {n c : Nat} {es : List Te} (h : Lv 2 w (.slice A n c) (es.map teC)) {i : Nat} {e : Te} (hi : es[i]? = some e) : ∃ g o, A = some ⟨g, o, none⟩ ∧ g < w.heap.size ∧ w.cell? ⟨g, o + i * 2, none⟩ = some (.int .u64 e.t.id) := by
  obtain ⟨g, o, hA, hg, hc⟩ := h.cells (by omega) (i := i) (x := teC e) (by rw [List.getElem?_map, hi]; rfl)
  exact ⟨g, o, hA, hg, by simpa using hc 0 _ rfl⟩
theorem te_form {w : World} {v : Value} {es : List Te} (h : Lv 2 w v (es.map teC)) : ∃ A c, v = .slice A es.length c ∧ es.length ≤ c ∧ c ≤ 9223372036854775807 := by
  obtain ⟨A, c, hv, h1, h2⟩ := h.form
  rw [List.length_map] at hv h1
  exact ⟨A, c, hv, h1, h2⟩

set_option maxHeartbeats 1600000 in
theorem ofOne_any (v : Value) (x : Te) (es : List Te) (w : World) (h : Lv 2 w v ((x :: es).map teC)) :
    Calls Try.prog 19 #[v] w fun e w' => (∃ k : Nat, e = .returned (.int .i64 (k : Int)) ∧ 1 ≤ k ∧ k ≤ es.length + 1 ∧ (∀ t ∈ (x :: es).take k, t.t.id = x.t.id) ∧ ∀ t, ((x :: es).drop k).head? = some t → t.t.id ≠ x.t.id) ∧ Below w.heap.size w w' := by
  obtain ⟨A, c, rfl, hc1, hc2⟩ := te_form h
  have H := Lib.hid h
  have HNX : Hid ((x :: es).length = es.length + 1) := Lib.hid rfl
  rw [List.length_cons] at hc1
  clear h
  generalize hL : x :: es = L at *
  have hn : L.length = es.length + 1 := HNX.out
  rw [hn]
  rw [hn] at H
  have H0 : Hid (L[0]? = some x) := Lib.hid (by rw [← hL]; rfl)
  generalize es.length = n at *
  clear hL hn
  go_enter Try.func19, Try.ntmps19
  go_wp2_with fail
  go_loopg [3] n (fun gk kv wr => ∃ (k : Nat), (k + 1) + gk = n + 1 ∧ kv = .int .i64 ((k : Int) + 1) ∧ Hid (Below w.heap.size w wr ∧ ∀ t ∈ L.take (k + 1), t.t.id = x.t.id))
  case atStart => exact ⟨0, by omega, by first | rfl | go_num, Lib.hid ⟨Below.refl _ _, fun t ht => by
    rw [take_snoc_at H0.out] at ht
    simp at ht
    rw [ht]⟩⟩
  case round =>
    obtain ⟨k, hkg, rfl, HM⟩ := hrel
    by_cases hlt : k + 1 < n + 1
    · obtain ⟨gk1, hgk1⟩ : ∃ x, gk = x + 1 := ⟨gk - 1, by omega⟩
      obtain ⟨y, hy⟩ : ∃ y, L[k + 1]? = some y := ⟨_, List.getElem?_eq_getElem (by rw [HNX.out]; omega)⟩
      have hlv := H.out.below HM.out.1
      obtain ⟨g, o, rfl, hg, c0⟩ := te_cells hlv H0.out
      obtain ⟨_, _, hA, _, c1⟩ := te_cells hlv hy
      injection hA with hA
      injection hA with e1 e2
      subst e1 e2
      have HY := Lib.hid hy
      have b0 : (0 : Int) ≤ (k : Int) + 1 := by omega
      have b1 : (k : Int) + 1 < (n : Int) + 1 := by omega
      have b2 : (0 : Int) < (n : Int) + 1 := by omega
      simp only [Nat.zero_mul, Nat.add_zero] at c0
      clear hy hlv
      by_cases he : y.t.id = x.t.id
      · have hb : (y.t.id == x.t.id) = true := by simpa using he
        have HT : Hid (∀ t ∈ L.take (k + 1 + 1), t.t.id = x.t.id) := Lib.hid fun t ht => by
          rw [take_snoc_at HY.out] at ht
          rcases List.mem_append.1 ht with ht | ht
          · exact HM.out.2 t ht
          · simp at ht
            rw [ht]
            exact he
        clear he
        go_wp2_with fail
        go_quiet (fail)
        go_wp2_with fail
        go_roundg gk1
        case measure => omega
        case rel => exact ⟨k + 1, by omega, by go_num, Lib.hid ⟨below_drewN HM.out.1 _, HT.out⟩⟩
      · have hb : (y.t.id == x.t.id) = false := by simpa using he
        have HE : Hid (∀ t, (L.drop (k + 1)).head? = some t → t.t.id ≠ x.t.id) := Lib.hid fun t ht => by
          rw [List.head?_drop, HY.out] at ht
          injection ht with ht
          subst ht
          exact he
        clear he
        go_wp2_with fail
        go_quiet (fail)
        go_wp2_with fail
        go_ret
        exact ⟨⟨k + 1, by first | rfl | go_num, by omega, by omega, HM.out.2, HE.out⟩, below_drewN HM.out.1 _⟩
    · have hkn : k = n := by omega
      subst hkn
      have HE : Hid (∀ t, (L.drop (k + 1)).head? = some t → t.t.id ≠ x.t.id) := Lib.hid fun t ht => by
        rw [List.drop_eq_nil_of_le (by rw [HNX.out]; omega)] at ht
        simp at ht
      have b1 : ¬ (k : Int) + 1 < (k : Int) + 1 := by omega
      go_wp2_with fail
      go_quiet (fail)
      go_wp2_with fail
      go_ret
      exact ⟨⟨k + 1, by first | rfl | go_num, by omega, by omega, HM.out.2, HE.out⟩, below_drewN HM.out.1 _⟩
end Go.Proofs.Ytpanpebllapbcaa

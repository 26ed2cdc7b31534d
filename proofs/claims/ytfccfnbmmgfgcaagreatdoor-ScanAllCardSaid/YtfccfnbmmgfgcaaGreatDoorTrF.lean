/-
  LISTS OF TRACES, as slices; CONTRACTS of the document's Spans (are spans the same?), Traces, FewTraces, Flat, and of trace.Flat. Conditions: at most 10000000 spans, Data of at most 1000000 bytes.
  SLICES OF SLICES OF TRACES ('TsV' in 'Sls'). No condition but what each theorem says.
-/
import Derived.Test.YtfccfnbmmgfgcaaGreatDoorTrC
import Derived.Test.YtfccfnbmmgfgcaaGreatDoorUs
namespace Go.Proofs.YtfccfnbmmgfgcaaGreatDoor
open Go.RowKit
set_option maxRecDepth 100000


theorem same_iff (a b : Sn) : sameB a b = true ↔ a = b := by
  obtain ⟨t, i, s, e, d⟩ := a
  obtain ⟨t', i', s', e', d'⟩ := b
  simp only [sameB, Bool.and_eq_true, decide_eq_true_iff, Sn.mk.injEq]
def eqSp : List Sn → List Sn → Bool
  | [], [] => true
  | a :: l, b :: m => sameB a b && eqSp l m
  | _, _ => false
theorem eqSp_iff : ∀ l m : List Sn, eqSp l m = true ↔ l = m
  | [], [] => by simp [eqSp]
  | [], _ :: _ => by simp [eqSp]
  | _ :: _, [] => by simp [eqSp]
  | a :: l, b :: m => by
    have ih := eqSp_iff l m
    simp [eqSp, same_iff, ih]
theorem eqSp_false {l m : List Sn} (h : l ≠ m) : eqSp l m = false := by
  cases hq : eqSp l m with
  | false => rfl
  | true => exact absurd ((eqSp_iff l m).1 hq) h

set_option maxRecDepth 100000 in
set_option maxHeartbeats 3200000 in
theorem Spans_any (v v' : Value) (l m : List Sn) (w : World) (h : Ss w v l) (h' : Ss w v' m) :
    Calls Tryz.prog 14 #[v, v'] w fun e w' => e = .returned (.bool (eqSp l m)) ∧ Below w.heap.size w w' := by
  have SL := Lib.hid h
  have SR := Lib.hid h'
  by_cases hlm : l.length = m.length
  · obtain ⟨A, c, hv, hc1, hc2⟩ := h.form
    obtain ⟨A', c', rfl, hc1', hc2'⟩ := h'.form
    rw [hlm] at hv hc1
    subst hv
    have HLM := Lib.hid hlm
    clear h h' hlm
    go_enter Tryz.func14, Tryz.ntmps14
    go_wp2_with fail
    go_loopw [5] (fun i wr => ∃ k : Nat, k ≤ m.length ∧ i = .int .i64 k ∧ Below w.heap.size w wr ∧ Hid (l.take k = m.take k)) (fun i _ => m.length - (intOf i).toNat)
    case atStart => exact ⟨0, Nat.zero_le _, rfl, Below.refl _ _, Lib.hid (by simp)⟩
    case round =>
      obtain ⟨k, hk, rfl, hB, HE⟩ := hrel
      by_cases hlt : k < m.length
      · obtain ⟨s, hks⟩ : ∃ s, l[k]? = some s := ⟨_, List.getElem?_eq_getElem (by have := HLM.out; omega)⟩
        obtain ⟨t, hkt⟩ : ∃ t, m[k]? = some t := ⟨_, List.getElem?_eq_getElem hlt⟩
        obtain ⟨g, o, d, rfl, hg, c0, c1, c2, c3, c4, hdd, hok⟩ := (SL.out.below hB).cells hks
        obtain ⟨g', o', d', rfl, hg', x0, x1, x2, x3, x4, hdd', hok'⟩ := (SR.out.below hB).cells hkt
        have r0 : ∀ u, Below wr.heap.size wr u → u.cell? ⟨g, o + k * 5, none⟩ = some (.int .u64 s.tr) := fun u h => (h.cell hg).trans c0
        have r1 : ∀ u, Below wr.heap.size wr u → u.cell? ⟨g, o + k * 5 + 1, none⟩ = some (.int .u64 s.id) := fun u h => (h.cell hg).trans c1
        have r2 : ∀ u, Below wr.heap.size wr u → u.cell? ⟨g, o + k * 5 + 2, none⟩ = some (.int .i64 s.st) := fun u h => (h.cell hg).trans c2
        have r3 : ∀ u, Below wr.heap.size wr u → u.cell? ⟨g, o + k * 5 + 3, none⟩ = some (.int .i64 s.en) := fun u h => (h.cell hg).trans c3
        have r4 : ∀ u, Below wr.heap.size wr u → u.cell? ⟨g, o + k * 5 + 4, none⟩ = some d := fun u h => (h.cell hg).trans c4
        have t0 : ∀ u, Below wr.heap.size wr u → u.cell? ⟨g', o' + k * 5, none⟩ = some (.int .u64 t.tr) := fun u h => (h.cell hg').trans x0
        have t1 : ∀ u, Below wr.heap.size wr u → u.cell? ⟨g', o' + k * 5 + 1, none⟩ = some (.int .u64 t.id) := fun u h => (h.cell hg').trans x1
        have t2 : ∀ u, Below wr.heap.size wr u → u.cell? ⟨g', o' + k * 5 + 2, none⟩ = some (.int .i64 t.st) := fun u h => (h.cell hg').trans x2
        have t3 : ∀ u, Below wr.heap.size wr u → u.cell? ⟨g', o' + k * 5 + 3, none⟩ = some (.int .i64 t.en) := fun u h => (h.cell hg').trans x3
        have t4 : ∀ u, Below wr.heap.size wr u → u.cell? ⟨g', o' + k * 5 + 4, none⟩ = some d' := fun u h => (h.cell hg').trans x4
        have hb0 : (0 : Int) ≤ (k : Int) := by omega
        have hb1 : (k : Int) < (m.length : Int) := by omega
        have V1 : SV wr.drew (.agg #[.int .u64 s.tr, .int .u64 s.id, .int .i64 s.st, .int .i64 s.en, d]) s := ⟨hok, d, rfl, hdd⟩
        have V2 : SV wr.drew (.agg #[.int .u64 t.tr, .int .u64 t.id, .int .i64 t.st, .int .i64 t.en, d']) t := ⟨hok', d', rfl, hdd'⟩
        have HKS := Lib.hid hks
        have HKT := Lib.hid hkt
        have HS1 := Lib.hid (take_snoc_at hks)
        have HS2 := Lib.hid (take_snoc_at hkt)
        clear c0 c1 c2 c3 c4 x0 x1 x2 x3 x4 hks hkt hdd hdd'
        go_wp2_with fail
        refine wp_region_mix [(0, false), (1, false), (2, false), (3, false), (4, false), (5, false), (6, false), (7, false), (8, true), (9, true)] (fun u => Below wr.heap.size wr u) (by kernel_rfl) (by kernel_rfl) (by kernel_rfl) rfl (Below.refl _ _).drew ?_
        repeat
          (refine mix_read (o := ⟨_, _, _, _, _, _⟩) (v := ?_) rfl (by rfl) (fun w' hS => ?_) ?_
           rotate_left
           go_simp
           with_reducible rfl
           try simp only [Act.put, List.setIfInBounds_toArray, List.set_cons_zero, List.set_cons_succ])
        refine mix_step (o := ⟨_, _, _, _, _, _⟩) rfl (fun K hK => ?_)
        go_simp
        refine (Same_any _ _ s t _ V1 V2).mono ?_
        rintro e u1 ⟨rfl, hu1⟩
        have hU : Below wr.heap.size wr u1 := ⟨hu1.os, hu1.tape, hu1.output, hu1.size, hu1.block⟩
        refine hK.out _ _ hU ?_
        clear hK K
        try simp only [Act.put, List.setIfInBounds_toArray, List.set_cons_zero, List.set_cons_succ]
        repeat
          (refine mix_step (o := ⟨_, _, _, _, _, _⟩) rfl (fun K hK => ?_)
           go_simp
           refine hK.out _ _ hU ?_
           clear hK K)
        refine mix_done ?_
        clear r0 r1 r2 r3 r4 t0 t1 t2 t3 t4 V1 V2
        have hUB := hB.trans (hU.mono hB.size)
        cases hst : sameB s t with
        | true =>
          have HST := Lib.hid hst
          clear hst
          go_wp2_with fail
          refine ⟨⟨k + 1, by omega, by go_num, hUB, Lib.hid ?_⟩, by simp [intOf]; omega⟩
          rw [HS1.out, HS2.out, HE.out, (same_iff s t).1 HST.out]
        | false =>
          have HST := Lib.hid hst
          clear hst
          go_wp2_with fail
          go_ret
          refine ⟨ret_bool ?_, hUB⟩
          refine (eqSp_false fun e => ?_).symm
          subst e
          have h1 := HKS.out.symm.trans HKT.out
          injection h1 with h1
          subst h1
          have := HST.out
          rw [(same_iff s s).2 rfl] at this
          cases this
      · go_wp2_with fail
        go_ret
        refine ⟨ret_bool ?_, hB⟩
        have h1 := HE.out
        rw [List.take_of_length_le (by have := HLM.out; omega), List.take_of_length_le (by omega)] at h1
        exact ((eqSp_iff l m).2 h1).symm
  · have HN := Lib.hid (eqSp_false (l := l) (m := m) fun e => hlm (by rw [e]))
    obtain ⟨A, c, rfl, hc1, hc2⟩ := h.form
    obtain ⟨A', c', rfl, hc1', hc2'⟩ := h'.form
    clear h h'
    have hlm' : ¬ ((l.length : Int) = (m.length : Int)) := by omega
    have k1 : ((l.length : Int) == (m.length : Int)) = false := by simpa using hlm'
    clear hlm
    go_enter Tryz.func14, Tryz.ntmps14
    go_wp2_with fail
    go_ret
    exact ⟨by rw [HN.out]; rfl, Below.refl _ _⟩

structure Tn where
  id : Int
  sp : List Sn
def TnC (w : World) (t : Tn) (x : List Value) : Prop := (0 ≤ t.id ∧ t.id ≤ 18446744073709551615) ∧ ∃ d, x = [.int .u64 t.id, d] ∧ Ss w d t.sp
def Ts (w : World) (v : Value) (l : List Tn) : Prop := ∃ xs, Lv 2 w v xs ∧ Two (TnC w) l xs
def TV (w : World) (v : Value) (t : Tn) : Prop := (0 ≤ t.id ∧ t.id ≤ 18446744073709551615) ∧ ∃ d, v = .agg #[.int .u64 t.id, d] ∧ Ss w d t.sp

section
variable {w w' : World} {v : Value} {l : List Tn} {t : Tn} {x : List Value}
theorem TnC.below (h : TnC w t x) (hb : Below w.heap.size w w') : TnC w' t x := by
  obtain ⟨ho, d, hx, hd⟩ := h
  exact ⟨ho, d, hx, hd.below hb⟩
theorem Ts.below (h : Ts w v l) (hb : Below w.heap.size w w') : Ts w' v l := by
  obtain ⟨xs, h1, h2⟩ := h
  exact ⟨xs, h1.below hb, h2.mono fun _ _ h => h.below hb⟩
theorem Ts.nil (w : World) : Ts w (.slice none 0 0) [] := ⟨[], Lv.nil 2 w, Two.nil⟩
theorem Ts.form (h : Ts w v l) : ∃ A c, v = .slice A l.length c ∧ l.length ≤ c ∧ c ≤ 9223372036854775807 := by
  obtain ⟨xs, h1, h2⟩ := h
  obtain ⟨A, c, hv, h3, h4⟩ := h1.form
  rw [← h2.len] at hv h3
  exact ⟨A, c, hv, h3, h4⟩
theorem Ts.cells {A : Option Addr} {n c : Nat} (h : Ts w (.slice A n c) l) {i : Nat} {t : Tn} (hi : l[i]? = some t) :
    ∃ g o d, A = some ⟨g, o, none⟩ ∧ g < w.heap.size ∧ w.cell? ⟨g, o + i * 2, none⟩ = some (.int .u64 t.id) ∧ w.cell? ⟨g, o + i * 2 + 1, none⟩ = some d ∧ Ss w d t.sp ∧ 0 ≤ t.id ∧ t.id ≤ 18446744073709551615 := by
  obtain ⟨xs, h1, h2⟩ := h
  obtain ⟨x, hx, hok, d, rfl, hd⟩ := h2.right hi
  obtain ⟨g, o, hA, hg, hc⟩ := h1.cells (by omega) hx
  exact ⟨g, o, d, hA, hg, hc 0 _ rfl, hc 1 _ rfl, hd, hok.1, hok.2⟩
end

def flatT (l : List Tn) : List Sn := l.flatMap fun t => t.sp

set_option maxRecDepth 100000 in
set_option maxHeartbeats 1600000 in
theorem Flat_any (v : Value) (l : List Tn) (w : World) (h : Ts w v l) (hl : (flatT l).length ≤ 10000000) (hll : l.length ≤ 1000000) :
    Calls Tryz.prog 69 #[v] w fun e w' => ∃ v', e = .returned v' ∧ Own5 w' w.heap.size v' (flatT l) ∧ Below w.heap.size w w' := by
  obtain ⟨A, c, rfl, hc1, hc2⟩ := h.form
  have H := Lib.hid h
  clear h
  go_enter Tryz.func69, Tryz.ntmps69
  go_wp2_with fail
  go_loopw [3, 4] (fun ov kv wr => ∃ k : Nat, k ≤ l.length ∧ kv = .int .i64 (k : Int) ∧ Own5 wr w.heap.size ov (flatT (l.take k)) ∧ Below w.heap.size w wr) (fun _ kv _ => l.length - (intOf kv).toNat)
  case atStart => exact ⟨0, Nat.zero_le _, rfl, Own5.nil _ _, Below.refl _ _⟩
  case round =>
    obtain ⟨k, hk, rfl, hO, hB⟩ := hrel
    by_cases hlt : k < l.length
    · obtain ⟨t, hkt⟩ : ∃ t, l[k]? = some t := ⟨_, List.getElem?_eq_getElem hlt⟩
      obtain ⟨g, o, d, rfl, hg, c0, c1, hd, _⟩ := H.out.cells hkt
      replace c0 := (hB.cell (p := ⟨g, o + k * 2, none⟩) hg).trans c0
      replace c1 := (hB.cell (p := ⟨g, o + k * 2 + 1, none⟩) hg).trans c1
      have HT := Lib.hid (take_snoc_at hkt)
      have hfl : (flatT (l.take k)).length + t.sp.length ≤ 10000000 := by
        have h1 : l = l.take k ++ ([t] ++ l.drop (k + 1)) := by
          rw [← List.append_assoc, ← take_snoc_at hkt, List.take_append_drop]
        have h2 := congrArg (fun z => (flatT z).length) h1
        simp only [flatT, List.flatMap_append, List.length_append, List.flatMap_cons, List.flatMap_nil, List.append_nil] at h2
        simp only [flatT] at hl ⊢
        omega
      have HO := Lib.hid hO
      have HFL := Lib.hid hfl
      have HSF : Hid (Sf wr u3.ownBlock d t.sp) := Lib.hid (Sf.of_ss hd hB (fun q hq => (hO.lt q hq).1))
      clear hO hkt hfl hd
      go_wp2_with (at_builtin; refine wpList_append_own5 _ rfl _ _ rfl rfl HO.out rfl HSF.out (by have := HFL.out; omega) hB.size ?_)
      intro v5 w5 ho5 hg5 _
      go_wp2_with fail
      refine ⟨⟨k + 1, by omega, by go_num, ?_, hB.grown hg5 hB.size (fun q hq => (HO.out.lt q hq).1)⟩, by simp [intOf]; omega⟩
      rw [HT.out, flatT, List.flatMap_append]
      simpa [flatT] using ho5
    · have hkk : k = l.length := by omega
      subst hkk
      rw [List.take_length] at hO
      go_wp2_with fail
      go_ret
      exact ⟨_, rfl, hO, hB⟩

def fewT (l : List Tn) (n : Int) : Bool := l.all (fun t => fewB t.sp 150) && (decide ((l.length : Int) ≤ 100) && decide (((flatT l).length : Int) ≤ n))
set_option maxRecDepth 100000 in
set_option maxHeartbeats 1600000 in
theorem FewTraces_any (v : Value) (l : List Tn) (n : Int) (w : World) (h : Ts w v l) (hl : l.length ≤ 140737488355328) :
    Calls Tryz.prog 18 #[v, .int .i64 n] w fun e w' => e = .returned (.bool (fewT l n)) ∧ w = w' := by
  obtain ⟨A, c, rfl, hc1, hc2⟩ := h.form
  have H := Lib.hid h
  clear h
  go_enter Tryz.func18, Tryz.ntmps18
  go_wp2_with fail
  go_loop [5, 6] (fun nv iv => ∃ k m : Nat, k ≤ l.length ∧ iv = .int .i64 (k : Int) ∧ nv = .int .i64 (m : Int) ∧ m ≤ 150 * k ∧ Hid (m = (flatT (l.take k)).length ∧ (l.take k).all (fun t => fewB t.sp 150) = true)) (fun _ iv => l.length - (intOf iv).toNat)
  case atStart => exact ⟨0, 0, Nat.zero_le _, rfl, rfl, by omega, Lib.hid ⟨by simp [flatT], by simp⟩⟩
  case round =>
    obtain ⟨k, m, hk, rfl, rfl, hm, HM⟩ := hrel
    by_cases hlt : k < l.length
    · obtain ⟨t, hkt⟩ : ∃ t, l[k]? = some t := ⟨_, List.getElem?_eq_getElem hlt⟩
      obtain ⟨g, o, d, rfl, hg, c0, c1, hd, _⟩ := H.out.cells hkt
      have HT := Lib.hid (take_snoc_at hkt)
      have HK := Lib.hid hkt
      have HD := Lib.hid hd
      obtain ⟨A2, cc2, hdv, hx1, hx2⟩ := hd.form
      subst hdv
      have hF := Few_any _ _ 150 w HD.out
      clear hd hkt
      cases hf : fewB t.sp 150 with
      | false =>
        rw [hf] at hF
        have HF := Lib.hid hf
        clear hf
        go_wp2_with fail
        refine hF.mono ?_
        rintro e w1 ⟨rfl, rfl⟩
        go_wp2_with fail
        go_ret
        refine ⟨ret_bool ?_, rfl⟩
        have : l.all (fun t => fewB t.sp 150) = false := by
          rw [List.all_eq_false]
          exact ⟨t, List.mem_of_getElem? HK.out, by rw [HF.out]; simp⟩
        rw [fewT, this]
        rfl
      | true =>
        rw [hf] at hF
        have hlen : t.sp.length ≤ 150 := by
          simp only [fewB, Bool.and_eq_true, decide_eq_true_iff] at hf
          omega
        have HF := Lib.hid hf
        clear hf
        go_wp2_with fail
        refine hF.mono ?_
        rintro e w1 ⟨rfl, rfl⟩
        go_wp2_with fail
        refine ⟨⟨k + 1, m + t.sp.length, by omega, by go_num, by go_num, by omega, Lib.hid ⟨?_, ?_⟩⟩, by simp [intOf]; omega⟩
        · rw [HT.out, HM.out.1]
          simp [flatT]
        · rw [HT.out, List.all_append, HM.out.2]
          simp [HF.out]
    · have hkk : k = l.length := by omega
      subst hkk
      rw [List.take_length] at HM
      have HE : Hid (fewT l n = (decide ((l.length : Int) ≤ 100) && decide ((m : Int) ≤ n))) := Lib.hid (by rw [fewT, HM.out.2, ← HM.out.1]; simp)
      by_cases hb : (l.length : Int) ≤ 100
      · have HB := Lib.hid hb
        go_wp2_with fail
        go_ret
        refine ⟨ret_bool ?_, rfl⟩
        rw [HE.out, decide_eq_true HB.out]
        simp
      · have HB := Lib.hid hb
        go_wp2_with fail
        go_ret
        refine ⟨ret_bool ?_, rfl⟩
        rw [HE.out, decide_eq_false (by have := HB.out; omega)]
        rfl

theorem eqSp_refl (l : List Sn) : eqSp l l = true := (eqSp_iff l l).2 rfl

def TsV (w : World) (r : List Tn) (d : Value) : Prop := Ts w d r
theorem sls_ts_below {w w' : World} {v : Value} {rows : List (List Tn)} (h : Sls TsV w v rows) (hb : Below w.heap.size w w') : Sls TsV w' v rows := h.below (fun {_ _} (h1 : Ts _ _ _) => h1.below hb) hb

end Go.Proofs.YtfccfnbmmgfgcaaGreatDoor

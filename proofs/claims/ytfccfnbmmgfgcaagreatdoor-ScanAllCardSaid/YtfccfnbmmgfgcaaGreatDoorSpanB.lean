/-
  CONTRACTS of span.Compare, span.Same and of the document's Ahead, Same.
  LISTS OF SPANS, as slices; CONTRACTS of the document's Few, of span.one and span.Put.
  SPANS ALL OF THE CALL's OWN, their Data, too ('Acc'). No condition.
-/
import Derived.Test.YtfccfnbmmgfgcaaGreatDoorSpanA
import Derived.Test.YtfccfnbmmgfgcaaGreatDoorLs
namespace Go.Proofs.YtfccfnbmmgfgcaaGreatDoor
open Go.RowKit

def cmpS (a b : Sn) : Int := orI (cmpI a.st b.st) (cmpI a.id b.id) (cmpI a.tr b.tr)
def aheadB (a b : Sn) : Bool := if a.st ≠ b.st then decide (a.st < b.st) else if a.id ≠ b.id then decide (a.id < b.id) else decide (a.tr < b.tr)
def sameB (a b : Sn) : Bool := decide (a.tr = b.tr) && (decide (a.id = b.id) && (decide (a.st = b.st) && (decide (a.en = b.en) && decide (a.data = b.data))))

theorem Bstr_beq (l m : List UInt8) : ((Bstr l).toList == (Bstr m).toList) = decide (l = m) := by
  rw [Bstr_toList, Bstr_toList, Bool.eq_iff_iff]
  simp

set_option maxHeartbeats 800000 in
set_option maxRecDepth 100000 in
theorem compare_any (va vb : Value) (a b : Sn) (w : World) (ha : SV w va a) (hb : SV w vb b) :
    Calls Tryz.prog 151 #[va, vb] w fun e w' => e = .returned (.int .i64 (cmpS a b)) ∧ Below w.heap.size w w' := by
  obtain ⟨ho, d, rfl, hd⟩ := ha
  obtain ⟨ho', d', rfl, hd'⟩ := hb
  go_enter Tryz.func151, Tryz.ntmps151
  go_wp2_with fail
  have hA : Blk ((w.alloc (.cells #[.int .u64 a.tr, .int .u64 a.id, .int .i64 a.st, .int .i64 a.en, d] 87)).alloc (.cells #[.int .u64 b.tr, .int .u64 b.id, .int .i64 b.st, .int .i64 b.en, d'] 87)) w.heap.size 87 #[.int .u64 a.tr, .int .u64 a.id, .int .i64 a.st, .int .i64 a.en, d] := (Blk.new _ _ _).alloc _
  have hB := Blk.new (w.alloc (.cells #[.int .u64 a.tr, .int .u64 a.id, .int .i64 a.st, .int .i64 a.en, d] 87)) 87 #[.int .u64 b.tr, .int .u64 b.id, .int .i64 b.st, .int .i64 b.en, d']
  have hb : Below w.heap.size w ((w.alloc (.cells #[.int .u64 a.tr, .int .u64 a.id, .int .i64 a.st, .int .i64 a.en, d] 87)).alloc (.cells #[.int .u64 b.tr, .int .u64 b.id, .int .i64 b.st, .int .i64 b.en, d'] 87)) := ((Below.refl _ _).alloc (Nat.le_refl _) _).alloc (by simp) _
  revert hA hB hb
  generalize (w.alloc (.cells #[.int .u64 a.tr, .int .u64 a.id, .int .i64 a.st, .int .i64 a.en, d] 87)).alloc (.cells #[.int .u64 b.tr, .int .u64 b.id, .int .i64 b.st, .int .i64 b.en, d'] 87) = w1
  intro hA hB hb
  have a0 := hA.cell 0
  have a1 := hA.cell 1
  have a2 := hA.cell 2
  have b0 := hB.cell 0
  have b1 := hB.cell 1
  have b2 := hB.cell 2
  simp at a0 a1 a2 b0 b1 b2
  refine wp_region_still_tail 15 (by kernel_rfl) (by kernel_rfl) ?_
  simp only [List.take_succ_cons, List.take_zero, List.drop_succ_cons, List.drop_zero]
  still_step
  still_step
  still_step
  still_step
  still_call ((cmp_i64 _ _ _).mono fun _ _ ⟨he, hw⟩ => ⟨he, hw.symm⟩)
  still_step
  still_step
  still_step
  still_step
  still_call ((cmp_u64 _ _ _).mono fun _ _ ⟨he, hw⟩ => ⟨he, hw.symm⟩)
  still_step
  still_step
  still_step
  still_step
  still_call ((cmp_u64 _ _ _).mono fun _ _ ⟨he, hw⟩ => ⟨he, hw.symm⟩)
  refine wpStill_nil ?_
  go_wp2_with fail
  refine (or_any _ _ _ w1.heap.size _ (show Blk (w1.alloc _).drew _ _ _ from Blk.new w1 _ _)).mono ?_
  rintro e w2 ⟨rfl, rfl⟩
  go_wp2_with fail
  go_ret
  exact ⟨rfl, (hb.alloc hb.size _).drew⟩

set_option maxHeartbeats 800000 in
theorem Ahead_any (va vb : Value) (a b : Sn) (w : World) (ha : SV w va a) (hb : SV w vb b) :
    Calls Tryz.prog 135 #[va, vb] w fun e w' => e = .returned (.bool (aheadB a b)) ∧ Below w.heap.size w w' := by
  obtain ⟨ho, d, rfl, hd⟩ := ha
  obtain ⟨ho', d', rfl, hd'⟩ := hb
  by_cases h1 : a.st = b.st
  · by_cases h2 : a.id = b.id
    · have e : aheadB a b = decide (a.tr < b.tr) := by simp [aheadB, h1, h2]
      rw [e]
      have k1 : (a.st == b.st) = true := by simpa using h1
      have k2 : (a.id == b.id) = true := by simpa using h2
      have k3 : (a.st != b.st) = false := by simpa using h1
      have k4 : (a.id != b.id) = false := by simpa using h2
      clear e h1 h2
      go_enter Tryz.func135, Tryz.ntmps135
      go_wp2
      go_ret
      exact ⟨rfl, ((Below.refl _ _).alloc (Nat.le_refl _) _).alloc (by simp) _⟩
    · have e : aheadB a b = decide (a.id < b.id) := by simp [aheadB, h1, h2]
      rw [e]
      have k1 : (a.st == b.st) = true := by simpa using h1
      have k2 : (a.id == b.id) = false := by simpa using h2
      have k3 : (a.st != b.st) = false := by simpa using h1
      have k4 : (a.id != b.id) = true := by simpa using h2
      clear e h1 h2
      go_enter Tryz.func135, Tryz.ntmps135
      go_wp2
      go_ret
      exact ⟨rfl, ((Below.refl _ _).alloc (Nat.le_refl _) _).alloc (by simp) _⟩
  · have e : aheadB a b = decide (a.st < b.st) := by simp [aheadB, h1]
    rw [e]
    have k1 : (a.st == b.st) = false := by simpa using h1
    have k3 : (a.st != b.st) = true := by simpa using h1
    clear e h1
    go_enter Tryz.func135, Tryz.ntmps135
    go_wp2
    go_ret
    exact ⟨rfl, ((Below.refl _ _).alloc (Nat.le_refl _) _).alloc (by simp) _⟩

theorem cmpI_zero (a b : Int) : cmpI a b = 0 ↔ a = b := by
  unfold cmpI
  split
  · omega
  · split <;> omega
theorem cmpS_zero (a b : Sn) : cmpS a b = 0 ↔ a.st = b.st ∧ a.id = b.id ∧ a.tr = b.tr := by
  have h1 := cmpI_zero a.st b.st
  have h2 := cmpI_zero a.id b.id
  have h3 := cmpI_zero a.tr b.tr
  unfold cmpS orI
  split
  · rename_i h
    simp [h, ← h1]
  · rename_i h
    split
    · rename_i h'
      simp [h', ← h2]
    · rename_i h'
      rw [h3]
      have e1 : a.st = b.st := h1.1 (by omega)
      have e2 : a.id = b.id := h2.1 (by omega)
      simp [e1, e2]
set_option maxHeartbeats 800000 in
theorem Same_any (va vb : Value) (a b : Sn) (w : World) (ha : SV w va a) (hb : SV w vb b) :
    Calls Tryz.prog 32 #[va, vb] w fun e w' => e = .returned (.bool (sameB a b)) ∧ Below w.heap.size w w' := by
  obtain ⟨ho, d, rfl, hd⟩ := ha
  obtain ⟨ho', d', rfl, hd'⟩ := hb
  have hb : Below w.heap.size w ((w.alloc (.cells #[.int .u64 a.tr, .int .u64 a.id, .int .i64 a.st, .int .i64 a.en, d] 87)).alloc (.cells #[.int .u64 b.tr, .int .u64 b.id, .int .i64 b.st, .int .i64 b.en, d'] 87)) := ((Below.refl _ _).alloc (Nat.le_refl _) _).alloc (by simp) _
  have s1 := strOf (show Bs ((w.alloc (.cells #[.int .u64 a.tr, .int .u64 a.id, .int .i64 a.st, .int .i64 a.en, d] 87)).alloc (.cells #[.int .u64 b.tr, .int .u64 b.id, .int .i64 b.st, .int .i64 b.en, d'] 87)) d a.data from (hd.alloc _).alloc _)
  have s2 := strOf (show Bs ((w.alloc (.cells #[.int .u64 a.tr, .int .u64 a.id, .int .i64 a.st, .int .i64 a.en, d] 87)).alloc (.cells #[.int .u64 b.tr, .int .u64 b.id, .int .i64 b.st, .int .i64 b.en, d'] 87)) d' b.data from (hd'.alloc _).alloc _)
  have hq := Bstr_beq a.data b.data
  by_cases h1 : a.tr = b.tr
  · have k1 : (a.tr == b.tr) = true := by simpa using h1
    by_cases h2 : a.id = b.id
    · have k2 : (a.id == b.id) = true := by simpa using h2
      by_cases h3 : a.st = b.st
      · have k3 : (a.st == b.st) = true := by simpa using h3
        by_cases h4 : a.en = b.en
        · have k4 : (a.en == b.en) = true := by simpa using h4
          have e : sameB a b = decide (a.data = b.data) := by simp [sameB, h1, h2, h3, h4]
          rw [e]
          have HQ := Lib.hid hq
          clear e h1 h2 h3 h4 hq
          go_enter Tryz.func32, Tryz.ntmps32
          go_wp2_with fail
          go_ret
          exact ⟨ret_bool HQ.out, hb⟩
        · have k4 : (a.en == b.en) = false := by simpa using h4
          have e : sameB a b = false := by simp [sameB, h4]
          rw [e]
          clear e h1 h2 h3 h4 hq
          go_enter Tryz.func32, Tryz.ntmps32
          go_wp2_with fail
          go_ret
          exact ⟨rfl, hb⟩
      · have k3 : (a.st == b.st) = false := by simpa using h3
        have e : sameB a b = false := by simp [sameB, h3]
        rw [e]
        clear e h1 h2 h3 hq
        go_enter Tryz.func32, Tryz.ntmps32
        go_wp2_with fail
        go_ret
        exact ⟨rfl, hb⟩
    · have k2 : (a.id == b.id) = false := by simpa using h2
      have e : sameB a b = false := by simp [sameB, h2]
      rw [e]
      clear e h1 h2 hq
      go_enter Tryz.func32, Tryz.ntmps32
      go_wp2_with fail
      go_ret
      exact ⟨rfl, hb⟩
  · have k1 : (a.tr == b.tr) = false := by simpa using h1
    have e : sameB a b = false := by simp [sameB, h1]
    rw [e]
    clear e h1 hq
    go_enter Tryz.func32, Tryz.ntmps32
    go_wp2_with fail
    go_ret
    exact ⟨rfl, hb⟩

def Ss (w : World) (v : Value) (l : List Sn) : Prop := ∃ xs, Lv 5 w v xs ∧ Two (SpC w) l xs

section
variable {w w' : World} {v : Value} {l : List Sn}
theorem Ss.nil (w : World) : Ss w (.slice none 0 0) [] := ⟨[], Lv.nil 5 w, Two.nil⟩
theorem Ss.below (h : Ss w v l) (hb : Below w.heap.size w w') : Ss w' v l := by
  obtain ⟨xs, h1, h2⟩ := h
  exact ⟨xs, h1.below hb, h2.mono fun _ _ h => h.below hb⟩
theorem Ss.alloc (h : Ss w v l) (o : Obj) : Ss (w.alloc o) v l := h.below ((Below.refl _ _).alloc (Nat.le_refl _) o)
theorem Ss.drewN (h : Ss w v l) (n : Nat) : Ss (w.drewN n) v l := h
theorem Ss.drew (h : Ss w v l) : Ss w.drew v l := h
theorem Ss.form (h : Ss w v l) : ∃ A c, v = .slice A l.length c ∧ l.length ≤ c ∧ c ≤ 9223372036854775807 := by
  obtain ⟨xs, h1, h2⟩ := h
  obtain ⟨A, c, hv, h3, h4⟩ := h1.form
  rw [← h2.len] at hv h3
  exact ⟨A, c, hv, h3, h4⟩
theorem Ss.ok (h : Ss w v l) {i : Nat} {s : Sn} (hi : l[i]? = some s) : s.ok := by
  obtain ⟨xs, h1, h2⟩ := h
  obtain ⟨x, _, hx⟩ := h2.right hi
  exact hx.1
theorem Ss.cells {A : Option Addr} {n c : Nat} (h : Ss w (.slice A n c) l) {i : Nat} {s : Sn} (hi : l[i]? = some s) :
    ∃ g o d, A = some ⟨g, o, none⟩ ∧ g < w.heap.size ∧ w.cell? ⟨g, o + i * 5, none⟩ = some (.int .u64 s.tr) ∧ w.cell? ⟨g, o + i * 5 + 1, none⟩ = some (.int .u64 s.id) ∧ w.cell? ⟨g, o + i * 5 + 2, none⟩ = some (.int .i64 s.st) ∧
      w.cell? ⟨g, o + i * 5 + 3, none⟩ = some (.int .i64 s.en) ∧ w.cell? ⟨g, o + i * 5 + 4, none⟩ = some d ∧ Bs w d s.data ∧ s.ok := by
  obtain ⟨xs, h1, h2⟩ := h
  obtain ⟨x, hx, hok, d, rfl, hd⟩ := h2.right hi
  obtain ⟨g, o, hA, hg, hc⟩ := h1.cells (by omega) hx
  exact ⟨g, o, d, hA, hg, hc 0 _ rfl, hc 1 _ rfl, hc 2 _ rfl, hc 3 _ rfl, hc 4 _ rfl, hd, hok⟩
end

def fewB (l : List Sn) (n : Int) : Bool := l.all (fun s => decide (s.data.length ≤ 200)) && decide ((l.length : Int) ≤ n)

theorem take_all_snoc {α : Type} {l : List α} {p : α → Bool} {k : Nat} (hk : k < l.length) (h : (l.take k).all p = true) (hp : p l[k] = true) : (l.take (k + 1)).all p = true := by
  rw [List.take_succ_eq_append_getElem hk, List.all_append, h]
  simpa using hp
theorem all_of_not {α : Type} {l : List α} {p : α → Bool} {k : Nat} (hk : k < l.length) (hp : p l[k] = false) : l.all p = false := by
  rw [List.all_eq_false]
  exact ⟨l[k], List.getElem_mem hk, by simp [hp]⟩

set_option maxHeartbeats 800000 in
theorem Few_any (v : Value) (l : List Sn) (n : Int) (w : World) (h : Ss w v l) :
    Calls Tryz.prog 38 #[v, .int .i64 n] w fun e w' => e = .returned (.bool (fewB l n)) ∧ w = w' := by
  obtain ⟨A, c, rfl, hc1, hc2⟩ := h.form
  have H := Lib.hid h
  clear h
  go_enter Tryz.func38, Tryz.ntmps38
  go_wp2
  go_loop [5] (fun i => ∃ k : Nat, k ≤ l.length ∧ i = .int .i64 k ∧ Hid ((l.take k).all (fun s => decide (s.data.length ≤ 200)) = true)) (fun i => l.length - (intOf i).toNat)
  case atStart => exact ⟨0, Nat.zero_le _, rfl, Lib.hid (by simp)⟩
  case round =>
    obtain ⟨k, hk, rfl, HK⟩ := hrel
    by_cases hlt : k < l.length
    · obtain ⟨g, o, d, rfl, hg, _, _, _, _, c4, hd, _⟩ := H.out.cells (List.getElem?_eq_getElem hlt)
      obtain ⟨A', c', rfl, hc1', hc2', _⟩ := hd
      by_cases hs : l[k].data.length ≤ 200
      · have HS := Lib.hid hs
        go_wp2
        refine ⟨⟨k + 1, by omega, by go_num, Lib.hid (take_all_snoc hlt HK.out (decide_eq_true HS.out))⟩, by simp [intOf]; omega⟩
      · have HS := Lib.hid hs
        go_wp2
        go_ret
        refine ⟨ret_bool ?_, rfl⟩
        rw [fewB, all_of_not hlt (decide_eq_false HS.out)]
        rfl
    · go_wp2
      go_ret
      refine ⟨ret_bool ?_, rfl⟩
      have e := HK.out
      rw [List.take_of_length_le (by omega)] at e
      rw [fewB, e]
      rfl

def encOne (s : Sn) : List UInt8 := bet s.tr.toNat 8 ++ (bet s.id.toNat 8 ++ (bet s.st.toNat 8 ++ (bet s.en.toNat 8 ++ (bet s.data.length 2 ++ s.data))))
theorem encOne_length (s : Sn) : (encOne s).length = 34 + s.data.length := by
  simp [encOne, bet_length]
  omega

theorem putOk8 (n : Int) (h1 : n ≤ 18446744073709551615) : putOk 8 n = true := by
  have h4 : (256 : Nat) ^ 8 = 18446744073709551616 := by decide
  have h2 : n.toNat < 256 ^ (8 : Int).toNat := by
    show n.toNat < 256 ^ 8
    omega
  simp only [putOk, Bool.and_eq_true, decide_eq_true_iff]
  exact ⟨by decide, h2⟩

theorem may_bounds {s : Sn} (h : mayB s = true) : 0 ≤ s.st ∧ s.st ≤ s.en ∧ s.en ≤ 1099511627776 ∧ s.data.length ≤ 64 := by
  simpa [mayB] using h

theorem four_at0 (a b c d : Value) (u : World) : (Instr.index 247 (.agg #[a, b, c, d]) (.int .i64 0)).run Tryz.prog u = .ok a u := by kernel_rfl
theorem four_at1 (a b c d : Value) (u : World) : (Instr.index 247 (.agg #[a, b, c, d]) (.int .i64 1)).run Tryz.prog u = .ok b u := by kernel_rfl
theorem four_at2 (a b c d : Value) (u : World) : (Instr.index 247 (.agg #[a, b, c, d]) (.int .i64 2)).run Tryz.prog u = .ok c u := by kernel_rfl
theorem four_at3 (a b c d : Value) (u : World) : (Instr.index 247 (.agg #[a, b, c, d]) (.int .i64 3)).run Tryz.prog u = .ok d u := by kernel_rfl

set_option maxRecDepth 100000 in
set_option maxHeartbeats 1600000 in
theorem one_any (v : Value) (s : Sn) (w : World) (h : SV w v s) (hm : mayB s = true) :
    Calls Tryz.prog 152 #[v] w fun e w' => ∃ v', e = .returned v' ∧ Own w' w.heap.size 5 v' (encOne s) ∧ Below w.heap.size w w' := by
  obtain ⟨m1, m2, m3, m4⟩ := may_bounds hm
  clear hm
  obtain ⟨ho, d, rfl, hd⟩ := h
  obtain ⟨o1, o2, o3, o4, o5, o6, o7, o8⟩ := ho
  have hA := Blk.new w 87 #[.int .u64 s.tr, .int .u64 s.id, .int .i64 s.st, .int .i64 s.en, d]
  have hb : Below w.heap.size w (w.alloc (.cells #[.int .u64 s.tr, .int .u64 s.id, .int .i64 s.st, .int .i64 s.en, d] 87)) := (Below.refl _ _).alloc (Nat.le_refl _) _
  have HA := Lib.hid hA
  have P1 := Lib.hid (putOk8 s.tr o2)
  have P2 := Lib.hid (putOk8 s.id o4)
  have P3 := Lib.hid (putOk8 s.st (by omega))
  have P4 := Lib.hid (putOk8 s.en (by omega))
  clear hA o2 o4
  have i0 := four_at0
  have i1 := four_at1
  have i2 := four_at2
  have i3 := four_at3
  go_enter Tryz.func152, Tryz.ntmps152
  go_wp2_with fail
  refine wp_loop_rounds 5 ?_
  rw [rounds_succ]
  go_wp2_with fail
  refine (put_ok [] _ _ _ _ o1 P1.out (by simp) (Bs.nil _)).mono ?_
  rintro e w1 ⟨v1, rfl, hown1, hb1⟩
  go_wp2_with fail
  rw [rounds_succ]
  go_wp2_with fail
  refine (put_ok _ _ _ _ _ o3 P2.out (by simp [bet_length]) hown1.bs).mono ?_
  rintro e w2 ⟨v2, rfl, hown2, hb2⟩
  go_wp2_with fail
  rw [rounds_succ]
  go_wp2_with fail
  refine (put_ok _ _ _ _ _ m1 P3.out (by simp [bet_length]) hown2.bs).mono ?_
  rintro e w3 ⟨v3, rfl, hown3, hb3⟩
  go_wp2_with fail
  rw [rounds_succ]
  go_wp2_with fail
  refine (put_ok _ _ _ _ _ (by omega) P4.out (by simp [bet_length]) hown3.bs).mono ?_
  rintro e w4 ⟨v4, rfl, hown4, hb4⟩
  go_wp2_with fail
  rw [rounds_succ]
  have hB1 := hb.trans (hb1.mono hb.size)
  have hB2 := hB1.trans (hb2.mono hB1.size)
  have hB3 := hB2.trans (hb3.mono hB2.size)
  have hB4 := hB3.trans (hb4.mono hB3.size)
  have hC4 := (hb1.trans (hb2.mono hb1.size))
  have hC5 := hC4.trans (hb3.mono hC4.size)
  have hC6 := hC5.trans (hb4.mono hC5.size)
  have c4 := (HA.out.below hC6 HA.out.lt).cell 4
  simp at c4
  clear hC4 hC5 hC6 hb1 hb2 hb3 hb4 hB1 hB2 hB3 HA P1 P2 P3 P4
  go_wp2_with fail
  refine (text_ok _ _ _ _ _ (by omega) (by simp [bet_length]) hown4.bs (hd.below hB4)).mono ?_
  rintro e w5 ⟨v5, rfl, hown5, hb5⟩
  go_wp2_with fail
  go_ret
  refine ⟨_, rfl, ?_, hB4.trans (hb5.mono hB4.size)⟩
  have he : encOne s = [] ++ bet s.tr.toNat (8 : Int).toNat ++ bet s.id.toNat (8 : Int).toNat ++ bet s.st.toNat (8 : Int).toNat ++ bet s.en.toNat (8 : Int).toNat ++ (bet s.data.length 2 ++ s.data) := by
    simp [encOne]
  rw [he]
  exact hown5.lower hB4.size

theorem spanT : ElemT Tryz.prog 41 87 5 56 := ⟨Tryz.underlying41, by omega, by
  obtain ⟨i, h1, h2, h3, h4⟩ := info_parts (P := Tryz.prog) (e := 87) (z := .agg #[.int .u64 0, .int .u64 0, .int .i64 0, .int .i64 0, .slice none 0 0]) (size := 5) (bytes := 56) (by kernel_rfl)
  exact ⟨i, _, h1, h2, h3, h4, rfl⟩⟩

def SpO (w : World) (base : Nat) (row : Option Nat) (s : Sn) (x : List Value) : Prop := s.ok ∧ ∃ d, x = spCells s d ∧ Own w base 5 d s.data ∧ (d.ownBlock = none ∨ d.ownBlock ≠ row)
structure Acc (w : World) (base : Nat) (v : Value) (l : List Sn) : Prop where
  is : ∃ xs, OwnL 5 w base 87 v xs ∧ Two (SpO w base v.ownBlock) l xs
section
variable {w w' : World} {base : Nat} {v : Value} {l : List Sn}
theorem Acc.nil (w : World) (base : Nat) : Acc w base (.slice none 0 0) [] := ⟨[], OwnL.nil _ _ _ _, Two.nil⟩
theorem Acc.ss (h : Acc w base v l) : Ss w v l := by
  obtain ⟨xs, h1, h2⟩ := h.is
  refine ⟨xs, h1.lv, h2.mono fun s x hx => ?_⟩
  obtain ⟨ho, d, hx, hd, _⟩ := hx
  exact ⟨ho, d, hx, hd.bs⟩
theorem Acc.grown {g : Nat} (h : Acc w base v l) (hg : w.grownBy w' (some g)) (hgb : g < base) : Acc w' base v l := by
  obtain ⟨xs, h1, h2⟩ := h.is
  refine ⟨xs, h1.kept hg (.inr (h1.ne_ hgb)), h2.mono fun s x hx => ?_⟩
  obtain ⟨ho, d, hx, hd, hs⟩ := hx
  exact ⟨ho, d, hx, hd.kept hg (.inr (hd.ne_ hgb)), hs⟩
theorem Acc.below (h : Acc w base v l) (hb : Below w.heap.size w w') : Acc w' base v l := by
  obtain ⟨xs, h1, h2⟩ := h.is
  refine ⟨xs, h1.below hb, h2.mono fun s x hx => ?_⟩
  obtain ⟨ho, d, hx, hd, hs⟩ := hx
  exact ⟨ho, d, hx, hd.below hb, hs⟩
theorem Acc.drewN (h : Acc w base v l) (n : Nat) : Acc (w.drewN n) base v l := h.below (below_drewN (Below.refl _ _) n)
theorem Acc.lt (h : Acc w base v l) : ∀ g, v.ownBlock = some g → base ≤ g ∧ g < w.heap.size := fun g hg => by
  obtain ⟨xs, h1, _⟩ := h.is
  exact ⟨h1.ge g hg, h1.lt g hg⟩
end

end Go.Proofs.YtfccfnbmmgfgcaaGreatDoor

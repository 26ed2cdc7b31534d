/-
  SPANS: what a span is, as a value; CONTRACTS of span.May, span.Compare, span.Same and of what they call, and of the document's May, Ahead, Same.
-/
import Derived.Test.YtfccfnbmmgfgcaaGreatDoorMore
import Derived.StillTailTactics
namespace Go.Proofs.YtfccfnbmmgfgcaaGreatDoor
open Go.RowKit

structure Sn where
  tr : Int
  id : Int
  st : Int
  en : Int
  data : List UInt8

structure Sn.ok (s : Sn) : Prop where
  tr0 : 0 ≤ s.tr
  tr1 : s.tr ≤ 18446744073709551615
  id0 : 0 ≤ s.id
  id1 : s.id ≤ 18446744073709551615
  st0 : -9223372036854775808 ≤ s.st
  st1 : s.st ≤ 9223372036854775807
  en0 : -9223372036854775808 ≤ s.en
  en1 : s.en ≤ 9223372036854775807

def spCells (s : Sn) (d : Value) : List Value := [.int .u64 s.tr, .int .u64 s.id, .int .i64 s.st, .int .i64 s.en, d]
def SpC (w : World) (s : Sn) (x : List Value) : Prop := s.ok ∧ ∃ d, x = spCells s d ∧ Bs w d s.data
def SV (w : World) (v : Value) (s : Sn) : Prop := s.ok ∧ ∃ d, v = .agg #[.int .u64 s.tr, .int .u64 s.id, .int .i64 s.st, .int .i64 s.en, d] ∧ Bs w d s.data

section
variable {w w' : World} {v : Value} {s : Sn} {x : List Value}
theorem SpC.below (h : SpC w s x) (hb : Below w.heap.size w w') : SpC w' s x := by
  obtain ⟨ho, d, hx, hd⟩ := h
  exact ⟨ho, d, hx, hd.below hb⟩
theorem SV.below (h : SV w v s) (hb : Below w.heap.size w w') : SV w' v s := by
  obtain ⟨ho, d, hx, hd⟩ := h
  exact ⟨ho, d, hx, hd.below hb⟩
theorem SV.alloc (h : SV w v s) (o : Obj) : SV (w.alloc o) v s := by
  obtain ⟨ho, d, hx, hd⟩ := h
  exact ⟨ho, d, hx, hd.alloc o⟩
theorem SV.drewN (h : SV w v s) (n : Nat) : SV (w.drewN n) v s := h
theorem SV.drew (h : SV w v s) : SV w.drew v s := h
end

def mayB (s : Sn) : Bool := decide (0 ≤ s.st) && (decide (s.st ≤ s.en) && (decide (s.en ≤ 1099511627776) && decide (s.data.length ≤ 64)))

set_option maxHeartbeats 800000 in
theorem may_any (v : Value) (s : Sn) (w : World) (h : SV w v s) : Calls Tryz.prog 149 #[v] w fun e w' => e = .returned (.bool (mayB s)) ∧ Below w.heap.size w w' := by
  obtain ⟨ho, d, rfl, hd⟩ := h
  obtain ⟨A, c, rfl, hc1, hc2, hr⟩ := hd
  by_cases h1 : 0 ≤ s.st
  · by_cases h2 : s.st ≤ s.en
    · by_cases h3 : s.en ≤ 1099511627776
      · by_cases h4 : s.data.length ≤ 64
        · have e : mayB s = true := by simp [mayB, h1, h2, h3, h4]
          rw [e]
          clear e
          go_enter Tryz.func149, Tryz.ntmps149
          go_wp2
          go_ret
          exact ⟨ret_bool (decide_eq_true (by omega)), (Below.refl _ _).alloc (Nat.le_refl _) _⟩
        · have e : mayB s = false := by simp [mayB, h4]
          rw [e]
          clear e
          go_enter Tryz.func149, Tryz.ntmps149
          go_wp2
          go_ret
          exact ⟨ret_bool (decide_eq_false (by omega)), (Below.refl _ _).alloc (Nat.le_refl _) _⟩
      · have e : mayB s = false := by simp [mayB, h3]
        rw [e]
        clear e
        go_enter Tryz.func149, Tryz.ntmps149
        go_wp2
        go_ret
        exact ⟨rfl, (Below.refl _ _).alloc (Nat.le_refl _) _⟩
    · have e : mayB s = false := by simp [mayB, h2]
      rw [e]
      clear e
      go_enter Tryz.func149, Tryz.ntmps149
      go_wp2
      go_ret
      exact ⟨rfl, (Below.refl _ _).alloc (Nat.le_refl _) _⟩
  · have e : mayB s = false := by simp [mayB, h1]
    rw [e]
    clear e
    go_enter Tryz.func149, Tryz.ntmps149
    go_wp2
    go_ret
    exact ⟨rfl, (Below.refl _ _).alloc (Nat.le_refl _) _⟩

set_option maxHeartbeats 800000 in
theorem May_any (v : Value) (s : Sn) (w : World) (h : SV w v s) : Calls Tryz.prog 102 #[v] w fun e w' => e = .returned (.bool (mayB s)) ∧ Below w.heap.size w w' := by
  obtain ⟨ho, d, rfl, hd⟩ := h
  obtain ⟨A, c, rfl, hc1, hc2, hr⟩ := hd
  by_cases h1 : 0 ≤ s.st
  · by_cases h2 : s.st ≤ s.en
    · by_cases h3 : s.en ≤ 1099511627776
      · by_cases h4 : s.data.length ≤ 64
        · have e : mayB s = true := by simp [mayB, h1, h2, h3, h4]
          rw [e]
          clear e
          go_enter Tryz.func102, Tryz.ntmps102
          go_wp2
          go_ret
          exact ⟨ret_bool (decide_eq_true (by omega)), (Below.refl _ _).alloc (Nat.le_refl _) _⟩
        · have e : mayB s = false := by simp [mayB, h4]
          rw [e]
          clear e
          go_enter Tryz.func102, Tryz.ntmps102
          go_wp2
          go_ret
          exact ⟨ret_bool (decide_eq_false (by omega)), (Below.refl _ _).alloc (Nat.le_refl _) _⟩
      · have e : mayB s = false := by simp [mayB, h3]
        rw [e]
        clear e
        go_enter Tryz.func102, Tryz.ntmps102
        go_wp2
        go_ret
        exact ⟨rfl, (Below.refl _ _).alloc (Nat.le_refl _) _⟩
    · have e : mayB s = false := by simp [mayB, h2]
      rw [e]
      clear e
      go_enter Tryz.func102, Tryz.ntmps102
      go_wp2
      go_ret
      exact ⟨rfl, (Below.refl _ _).alloc (Nat.le_refl _) _⟩
  · have e : mayB s = false := by simp [mayB, h1]
    rw [e]
    clear e
    go_enter Tryz.func102, Tryz.ntmps102
    go_wp2
    go_ret
    exact ⟨rfl, (Below.refl _ _).alloc (Nat.le_refl _) _⟩

def cmpI (a b : Int) : Int := if a < b then -1 else if b < a then 1 else 0

theorem nan_i64 (a : Int) (w : World) : Calls Tryz.prog 180 #[.int .i64 a] w fun e w' => e = .returned (.bool false) ∧ w = w' := by
  go_enter Tryz.func180, Tryz.ntmps180
  go_wp2
  go_ret
  exact ⟨rfl, rfl⟩

theorem nan_u64 (a : Int) (w : World) : Calls Tryz.prog 181 #[.int .u64 a] w fun e w' => e = .returned (.bool false) ∧ w = w' := by
  go_enter Tryz.func181, Tryz.ntmps181
  go_wp2
  go_ret
  exact ⟨rfl, rfl⟩

theorem cmp_i64 (a b : Int) (w : World) : Calls Tryz.prog 172 #[.int .i64 a, .int .i64 b] w fun e w' => e = .returned (.int .i64 (cmpI a b)) ∧ w = w' := by
  by_cases h1 : a < b
  · have e : cmpI a b = -1 := by simp [cmpI, h1]
    rw [e]
    clear e
    go_enter Tryz.func172, Tryz.ntmps172
    go_wp2_with (go_at_call 180; refine (nan_i64 _ _).mono ?_; rintro e w' ⟨rfl, rfl⟩)
    go_ret
    exact ⟨rfl, rfl⟩
  · by_cases h2 : b < a
    · have e : cmpI a b = 1 := by simp [cmpI, h1, h2]
      rw [e]
      clear e
      go_enter Tryz.func172, Tryz.ntmps172
      go_wp2_with (go_at_call 180; refine (nan_i64 _ _).mono ?_; rintro e w' ⟨rfl, rfl⟩)
      go_ret
      exact ⟨rfl, rfl⟩
    · have e : cmpI a b = 0 := by simp [cmpI, h1, h2]
      rw [e]
      clear e
      go_enter Tryz.func172, Tryz.ntmps172
      go_wp2_with (go_at_call 180; refine (nan_i64 _ _).mono ?_; rintro e w' ⟨rfl, rfl⟩)
      go_ret
      exact ⟨rfl, rfl⟩

theorem cmp_u64 (a b : Int) (w : World) : Calls Tryz.prog 173 #[.int .u64 a, .int .u64 b] w fun e w' => e = .returned (.int .i64 (cmpI a b)) ∧ w = w' := by
  by_cases h1 : a < b
  · have e : cmpI a b = -1 := by simp [cmpI, h1]
    rw [e]
    clear e
    go_enter Tryz.func173, Tryz.ntmps173
    go_wp2_with (go_at_call 181; refine (nan_u64 _ _).mono ?_; rintro e w' ⟨rfl, rfl⟩)
    go_ret
    exact ⟨rfl, rfl⟩
  · by_cases h2 : b < a
    · have e : cmpI a b = 1 := by simp [cmpI, h1, h2]
      rw [e]
      clear e
      go_enter Tryz.func173, Tryz.ntmps173
      go_wp2_with (go_at_call 181; refine (nan_u64 _ _).mono ?_; rintro e w' ⟨rfl, rfl⟩)
      go_ret
      exact ⟨rfl, rfl⟩
    · have e : cmpI a b = 0 := by simp [cmpI, h1, h2]
      rw [e]
      clear e
      go_enter Tryz.func173, Tryz.ntmps173
      go_wp2_with (go_at_call 181; refine (nan_u64 _ _).mono ?_; rintro e w' ⟨rfl, rfl⟩)
      go_ret
      exact ⟨rfl, rfl⟩

def orI (a b c : Int) : Int := if a ≠ 0 then a else if b ≠ 0 then b else c

theorem or_any (a b c : Int) (g : Nat) (w : World) (h : Blk w g 3 #[.int .i64 a, .int .i64 b, .int .i64 c]) :
    Calls Tryz.prog 171 #[.slice (some ⟨g, 0, none⟩) 3 3] w fun e w' => e = .returned (.int .i64 (orI a b c)) ∧ w = w' := by
  have h0 := h.cell 0
  have h1 := h.cell 1
  have h2 := h.cell 2
  simp at h0 h1 h2
  by_cases ha : a = 0
  · subst ha
    by_cases hb : b = 0
    · subst hb
      by_cases hc : c = 0
      · subst hc
        go_enter Tryz.func171, Tryz.ntmps171
        go_wp2
        refine wp_loop_rounds 4 ?_
        rw [rounds_succ]
        go_wp2
        rw [rounds_succ]
        go_wp2
        rw [rounds_succ]
        go_wp2
        rw [rounds_succ]
        go_wp2
        go_ret
        exact ⟨rfl, rfl⟩
      · have hc' : (c == 0) = false := by simpa using hc
        have e : orI 0 0 c = c := by simp [orI]
        rw [e]
        clear e hc
        go_enter Tryz.func171, Tryz.ntmps171
        go_wp2
        refine wp_loop_rounds 3 ?_
        rw [rounds_succ]
        go_wp2
        rw [rounds_succ]
        go_wp2
        rw [rounds_succ]
        go_wp2
        go_ret
        exact ⟨rfl, rfl⟩
    · have hb' : (b == 0) = false := by simpa using hb
      have e : orI 0 b c = b := by simp [orI, hb]
      rw [e]
      clear e hb
      go_enter Tryz.func171, Tryz.ntmps171
      go_wp2
      refine wp_loop_rounds 2 ?_
      rw [rounds_succ]
      go_wp2
      rw [rounds_succ]
      go_wp2
      go_ret
      exact ⟨rfl, rfl⟩
  · have ha' : (a == 0) = false := by simpa using ha
    have e : orI a b c = a := by simp [orI, ha]
    rw [e]
    clear e ha
    go_enter Tryz.func171, Tryz.ntmps171
    go_wp2
    refine wp_loop_rounds 1 ?_
    rw [rounds_succ]
    go_wp2
    go_ret
    exact ⟨rfl, rfl⟩

end Go.Proofs.YtfccfnbmmgfgcaaGreatDoor

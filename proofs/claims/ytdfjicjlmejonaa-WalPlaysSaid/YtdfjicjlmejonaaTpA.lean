/-
  A TAPE, as plain values; CONTRACTS of the document's tape: call, Append, Sync, Cut, Crash. Conditions: what each says.
-/
import Derived.Test.YtdfjicjlmejonaaWordG
import Derived.Test.YtdfjicjlmejonaaMix
import Derived.Test.YtdfjicjlmejonaaMix2
import Derived.Test.YtdfjicjlmejonaaMix3
import Derived.Test.YtdfjicjlmejonaaTwo
import Derived.Test.YtdfjicjlmejonaaCode
namespace Go.Proofs.Ytdfjicjlmejonaa
open Go.RowKit
set_option maxRecDepth 100000

/-- a tape, as the document has it -/
structure Tm where
  room : Int
  synced : Nat
  left : Int
  b : List UInt8
  down : Bool
/-- its numbers -/
structure Tm.fine (m : Tm) : Prop where
  room0 : 0 ≤ m.room
  room1 : m.room ≤ 1048576
  len : (m.b.length : Int) ≤ m.room
  sync : m.synced ≤ m.b.length
  left0 : -1 ≤ m.left
  left1 : m.left ≤ 9223372036854775807

def tCall (m : Tm) : Tm × Int := if m.down = true then (m, 9) else if m.left = 0 then ({ m with left := -1 }, 8) else ({ m with left := if 0 < m.left then m.left - 1 else m.left }, 0)
def tAppend (m : Tm) (b : List UInt8) : Tm × Int := if (tCall m).2 = 0 then (if m.room < (m.b.length : Int) + b.length then ((tCall m).1, 6) else ({ (tCall m).1 with b := m.b ++ b }, 0)) else tCall m
def tSync (m : Tm) : Tm × Int := if (tCall m).2 = 0 then ({ (tCall m).1 with synced := m.b.length }, 0) else tCall m
def tCut (m : Tm) (n : Int) : Tm × Int := if m.down = true then (m, 9) else if n < 0 ∨ (m.b.length : Int) < n then (m, 1) else ({ m with b := m.b.take n.toNat, synced := n.toNat }, 0)
def tMore (m : Tm) (keep : Int) : Nat := (if keep < (m.b.length : Int) - m.synced then keep else (m.b.length : Int) - m.synced).toNat
def tCrash (m : Tm) (keep : Int) : Tm := if m.down = true then m else { m with synced := m.synced + tMore m keep, b := m.b.take (m.synced + tMore m keep), down := true, left := -1 }
def tFail (m : Tm) (n : Int) : Tm := { m with left := if n < 0 then -1 else n }
def tUp (m : Tm) : Tm := { m with down := false }
def tRead (m : Tm) : List UInt8 × Int := if m.down = true then ([], 9) else (m.b, 0)

theorem tCall_down {m : Tm} (h : m.down = true) : tCall m = (m, 9) := by rw [tCall, if_pos h]
theorem tCall_fail {m : Tm} (h : m.down = false) (h0 : m.left = 0) : tCall m = ({ m with left := -1 }, 8) := by rw [tCall, if_neg (by rw [h]; simp), if_pos h0]
theorem tCall_ok {m : Tm} (h : m.down = false) (h0 : m.left ≠ 0) : tCall m = ({ m with left := if 0 < m.left then m.left - 1 else m.left }, 0) := by rw [tCall, if_neg (by rw [h]; simp), if_neg h0]
theorem tCall_same (m : Tm) : (tCall m).1.room = m.room ∧ (tCall m).1.synced = m.synced ∧ (tCall m).1.b = m.b ∧ (tCall m).1.down = m.down := by
  unfold tCall
  split
  · exact ⟨rfl, rfl, rfl, rfl⟩
  · split <;> exact ⟨rfl, rfl, rfl, rfl⟩
theorem tCall_code (m : Tm) : (tCall m).2 = 0 ∨ (tCall m).2 = 8 ∨ (tCall m).2 = 9 := by
  unfold tCall
  split
  · exact .inr (.inr rfl)
  · split
    · exact .inr (.inl rfl)
    · exact .inl rfl
theorem Tm.fine.call {m : Tm} (h : m.fine) : (tCall m).1.fine := by
  have h1 := h.left0
  have h2 := h.left1
  obtain ⟨e1, e2, e3, e4⟩ := tCall_same m
  refine ⟨by rw [e1]; exact h.room0, by rw [e1]; exact h.room1, by rw [e1, e3]; exact h.len, by rw [e2, e3]; exact h.sync, ?_, ?_⟩
  · unfold tCall
    split
    · exact h1
    · split
      · exact Int.le_refl _
      · show -1 ≤ (if 0 < m.left then m.left - 1 else m.left)
        split <;> omega
  · unfold tCall
    split
    · exact h2
    · split
      · show (-1 : Int) ≤ _
        omega
      · show (if 0 < m.left then m.left - 1 else m.left) ≤ _
        split <;> omega
theorem Tm.fine.append {m : Tm} (h : m.fine) (b : List UInt8) : (tAppend m b).1.fine := by
  have hc := h.call
  obtain ⟨e1, e2, e3, e4⟩ := tCall_same m
  unfold tAppend
  split
  · split
    · exact hc
    · have h3 := h.sync
      refine ⟨hc.room0, hc.room1, ?_, ?_, hc.left0, hc.left1⟩
      · show (((m.b ++ b).length : Nat) : Int) ≤ (tCall m).1.room
        rw [e1, List.length_append]
        omega
      · show (tCall m).1.synced ≤ (m.b ++ b).length
        rw [e2, List.length_append]
        omega
  · exact hc
theorem Tm.fine.syn {m : Tm} (h : m.fine) : (tSync m).1.fine := by
  have hc := h.call
  obtain ⟨e1, e2, e3, e4⟩ := tCall_same m
  unfold tSync
  split
  · refine ⟨hc.room0, hc.room1, hc.len, ?_, hc.left0, hc.left1⟩
    show m.b.length ≤ (tCall m).1.b.length
    rw [e3]
    exact Nat.le_refl _
  · exact hc
theorem Tm.fine.cut {m : Tm} (h : m.fine) (n : Int) : (tCut m n).1.fine := by
  have h1 := h.len
  unfold tCut
  split
  · exact h
  · split
    · exact h
    · refine ⟨h.room0, h.room1, ?_, ?_, h.left0, h.left1⟩
      · show (((m.b.take n.toNat).length : Nat) : Int) ≤ m.room
        rw [List.length_take]
        omega
      · show n.toNat ≤ (m.b.take n.toNat).length
        rw [List.length_take]
        omega
theorem tMore_le {m : Tm} (h : m.synced ≤ m.b.length) (keep : Int) : m.synced + tMore m keep ≤ m.b.length := by
  unfold tMore
  split <;> omega
theorem Tm.fine.crash {m : Tm} (h : m.fine) (keep : Int) : (tCrash m keep).fine := by
  have h1 := h.len
  have h2 := tMore_le h.sync keep
  unfold tCrash
  split
  · exact h
  · refine ⟨h.room0, h.room1, ?_, ?_, by show (-1 : Int) ≤ -1; omega, by show (-1 : Int) ≤ _; omega⟩
    · show (((m.b.take (m.synced + tMore m keep)).length : Nat) : Int) ≤ m.room
      rw [List.length_take]
      omega
    · show m.synced + tMore m keep ≤ (m.b.take (m.synced + tMore m keep)).length
      rw [List.length_take]
      omega
theorem Tm.fine.fail {m : Tm} (h : m.fine) (n : Int) (hn : n ≤ 9223372036854775807) : (tFail m n).fine := by
  refine ⟨h.room0, h.room1, h.len, h.sync, ?_, ?_⟩
  · show -1 ≤ (if n < 0 then (-1 : Int) else n)
    split <;> omega
  · show (if n < 0 then (-1 : Int) else n) ≤ _
    split <;> omega
theorem Tm.fine.up {m : Tm} (h : m.fine) : (tUp m).fine := ⟨h.room0, h.room1, h.len, h.sync, h.left0, h.left1⟩

/-- the document's tape in block g -/
def DT (w : World) (g : Nat) (m : Tm) : Prop := Blk w g 41 #[.int .i64 m.room, .int .i64 (m.synced : Int), .int .i64 m.left, .string (Bstr m.b), .bool m.down]
section
variable {w : World} {g : Nat} {m : Tm}
theorem DT.sync_ (h : DT w g m) (n : Nat) : DT (w.setCell ⟨g, 1, none⟩ (.int .i64 (n : Int))) g { m with synced := n } := by
  have := Blk.set_ h 1 (.int .i64 (n : Int))
  simp only [List.setIfInBounds_toArray, List.set_cons_succ, List.set_cons_zero] at this
  exact this
theorem DT.left_ (h : DT w g m) (n : Int) : DT (w.setCell ⟨g, 2, none⟩ (.int .i64 n)) g { m with left := n } := by
  have := Blk.set_ h 2 (.int .i64 n)
  simp only [List.setIfInBounds_toArray, List.set_cons_succ, List.set_cons_zero] at this
  exact this
theorem DT.b_ (h : DT w g m) (l : List UInt8) : DT (w.setCell ⟨g, 3, none⟩ (.string (Bstr l))) g { m with b := l } := by
  have := Blk.set_ h 3 (.string (Bstr l))
  simp only [List.setIfInBounds_toArray, List.set_cons_succ, List.set_cons_zero] at this
  exact this
theorem DT.down_ (h : DT w g m) (d : Bool) : DT (w.setCell ⟨g, 4, none⟩ (.bool d)) g { m with down := d } := by
  have := Blk.set_ h 4 (.bool d)
  simp only [List.setIfInBounds_toArray, List.set_cons_succ, List.set_cons_zero] at this
  exact this
end

set_option maxHeartbeats 800000 in
theorem dcall_any {w : World} {g : Nat} {m : Tm} (h : DT w g m) (h0 : -1 ≤ m.left) (h1 : m.left ≤ 9223372036854775807) :
    Calls Try.prog 30 #[.pointer (some ⟨g, 0, none⟩)] w fun e w' => e = .returned (.int .i64 (tCall m).2) ∧ DT w' g (tCall m).1 ∧ w.grownBy w' (some g) := by
  have H := Lib.hid h
  have k2 := Blk.cell h 2
  have k4 := Blk.cell h 4
  have f2 := Blk.frozen h 2
  simp at k2 k4
  clear h
  cases hd : m.down with
  | true =>
    have HG := Lib.hid (tCall_down hd)
    rw [hd] at k4
    clear hd
    go_enter Try.func30, Try.ntmps30
    go_wp2_with fail
    go_ret
    rw [HG.out]
    exact ⟨rfl, H.out, World.grownBy.refl _ _⟩
  | false =>
    rw [hd] at k4
    by_cases hz : m.left = 0
    · have HG := Lib.hid (tCall_fail hd hz)
      rw [hz] at k2
      have hg := grown_set w g 2 (.int .i64 (-1))
      clear hd hz
      go_enter Try.func30, Try.ntmps30
      go_wp2_with fail
      go_ret
      rw [HG.out]
      exact ⟨rfl, H.out.left_ _, hg⟩
    · have HG := Lib.hid (tCall_ok hd hz)
      have hzb : (m.left == 0) = false := by simp [hz]
      by_cases hp : 0 < m.left
      · have hg := grown_set w g 2 (.int .i64 (m.left - 1))
        have HD := Lib.hid (H.out.left_ (m.left - 1))
        have HG' : Hid (tCall m = ({ m with left := m.left - 1 }, 0)) := Lib.hid (by rw [HG.out, if_pos hp])
        clear hd hz HG
        go_enter Try.func30, Try.ntmps30
        go_wp2_with fail
        go_ret
        rw [HG'.out]
        exact ⟨rfl, HD.out, hg⟩
      · have HG' : Hid (tCall m = (m, 0)) := Lib.hid (by rw [HG.out, if_neg hp])
        clear hd hz HG
        go_enter Try.func30, Try.ntmps30
        go_wp2_with fail
        go_ret
        rw [HG'.out]
        exact ⟨rfl, H.out, World.grownBy.refl _ _⟩

set_option maxHeartbeats 1600000 in
theorem dappend_any {w : World} {g : Nat} {m : Tm} (b : List UInt8) (h : DT w g m) (hm : m.fine) (hb : b.length ≤ 1000000000) :
    Calls Try.prog 12 #[.pointer (some ⟨g, 0, none⟩), .string (Bstr b)] w fun e w' => e = .returned (.int .i64 (tAppend m b).2) ∧ DT w' g (tAppend m b).1 ∧ w.grownBy w' (some g) := by
  have hc := dcall_any h hm.left0 hm.left1
  have hlen := hm.len
  have hr0 := hm.room0
  have hr1 := hm.room1
  obtain ⟨e1, e2, e3, e4⟩ := tCall_same m
  have hcode := tCall_code m
  have HA : Hid (tAppend m b = if (tCall m).2 = 0 then (if m.room < (m.b.length : Int) + b.length then ((tCall m).1, 6) else ({ (tCall m).1 with b := m.b ++ b }, 0)) else tCall m) := Lib.hid rfl
  have zb : (Bstr b).size = b.length := Bstr_size _
  have zm : (Bstr m.b).size = m.b.length := Bstr_size _
  generalize tAppend m b = R at *
  generalize tCall m = r at *
  obtain ⟨m1, c⟩ := r
  simp only at hc e1 e2 e3 e4 hcode HA
  clear h hm
  go_enter Try.func12, Try.ntmps12
  go_wp2_with fail
  refine hc.mono ?_
  rintro e w1 ⟨rfl, h1, hg1⟩
  have H1 := Lib.hid h1
  have k0 := Blk.cell h1 0
  have k3 := Blk.cell h1 3
  have f3 := Blk.frozen h1 3
  simp at k0 k3
  rw [e1] at k0
  rw [e3] at k3
  clear h1 hc e2 e4
  by_cases hc0 : c = 0
  · subst hc0
    by_cases hfull : m.room < (m.b.length : Int) + b.length
    · have HR : Hid (R = (m1, 6)) := Lib.hid (by rw [HA.out, if_pos rfl, if_pos hfull])
      clear HA hcode
      go_wp2_with fail
      go_quiet (fail)
      go_wp2_with fail
      go_ret
      rw [HR.out]
      exact ⟨rfl, Blk.drewN H1.out _, grown_drewN hg1 _⟩
    · have HR : Hid (R = ({ m1 with b := m.b ++ b }, 0)) := Lib.hid (by rw [HA.out, if_pos rfl, if_neg hfull])
      have hadd := addStr m.b b (by omega)
      clear HA hcode
      go_wp2_with fail
      go_quiet (fail)
      have hw2 : DT (w1.drewN nq) g m1 := Blk.drewN H1.out _
      have hgn : w.grownBy (w1.drewN nq) (some g) := grown_drewN hg1 _
      have q3 : (w1.drewN nq).cell? ⟨g, 3, none⟩ = some (.string (Bstr m.b)) := k3
      have q3f : (w1.drewN nq).frozen? ⟨g, 3, none⟩ = false := f3
      generalize w1.drewN nq = w2 at *
      go_wp2_with fail
      go_ret
      rw [HR.out]
      exact ⟨rfl, hw2.b_ _, grown_trans hgn (grown_set _ _ _ _)⟩
  · have hcb : (c == 0) = false := by simp [hc0]
    have HR : Hid (R = (m1, c)) := Lib.hid (by rw [HA.out, if_neg hc0])
    clear HA hcode
    go_wp2_with fail
    go_quiet (fail)
    go_wp2_with fail
    go_ret
    rw [HR.out]
    exact ⟨rfl, Blk.drewN H1.out _, grown_drewN hg1 _⟩

set_option maxHeartbeats 800000 in
theorem dsync_any {w : World} {g : Nat} {m : Tm} (h : DT w g m) (hm : m.fine) :
    Calls Try.prog 39 #[.pointer (some ⟨g, 0, none⟩)] w fun e w' => e = .returned (.int .i64 (tSync m).2) ∧ DT w' g (tSync m).1 ∧ w.grownBy w' (some g) := by
  have hc := dcall_any h hm.left0 hm.left1
  obtain ⟨e1, e2, e3, e4⟩ := tCall_same m
  have HA : Hid (tSync m = if (tCall m).2 = 0 then ({ (tCall m).1 with synced := m.b.length }, 0) else tCall m) := Lib.hid rfl
  have zm : (Bstr m.b).size = m.b.length := Bstr_size _
  generalize tSync m = R at *
  generalize tCall m = r at *
  obtain ⟨m1, c⟩ := r
  simp only at hc e1 e2 e3 e4 HA
  clear h hm
  go_enter Try.func39, Try.ntmps39
  go_wp2_with fail
  refine hc.mono ?_
  rintro e w1 ⟨rfl, h1, hg1⟩
  have H1 := Lib.hid h1
  have k1 := Blk.cell h1 1
  have k3 := Blk.cell h1 3
  have f1 := Blk.frozen h1 1
  simp at k1 k3
  rw [e3] at k3
  clear h1 hc e1 e2 e4
  by_cases hc0 : c = 0
  · subst hc0
    have HR : Hid (R = ({ m1 with synced := m.b.length }, 0)) := Lib.hid (by rw [HA.out, if_pos rfl])
    clear HA
    go_wp2_with fail
    go_ret
    rw [HR.out]
    exact ⟨rfl, H1.out.sync_ _, grown_trans hg1 (grown_set _ _ _ _)⟩
  · have hcb : (c == 0) = false := by simp [hc0]
    have HR : Hid (R = (m1, c)) := Lib.hid (by rw [HA.out, if_neg hc0])
    clear HA hc0
    go_wp2_with fail
    go_ret
    rw [HR.out]
    exact ⟨rfl, H1.out, hg1⟩

set_option maxHeartbeats 800000 in
theorem dcut_any {w : World} {g : Nat} {m : Tm} (n : Int) (h : DT w g m) (hn0 : -9223372036854775808 ≤ n) (hn1 : n ≤ 9223372036854775807) :
    Calls Try.prog 33 #[.pointer (some ⟨g, 0, none⟩), .int .i64 n] w fun e w' => e = .returned (.int .i64 (tCut m n).2) ∧ DT w' g (tCut m n).1 ∧ w.grownBy w' (some g) := by
  have H := Lib.hid h
  have k1 := Blk.cell h 1
  have k3 := Blk.cell h 3
  have k4 := Blk.cell h 4
  have f1 := Blk.frozen h 1
  have f3 := Blk.frozen h 3
  simp at k1 k3 k4
  have zm : (Bstr m.b).size = m.b.length := Bstr_size _
  clear h
  cases hd : m.down with
  | true =>
    have HG : Hid (tCut m n = (m, 9)) := Lib.hid (by rw [tCut, if_pos hd])
    rw [hd] at k4
    clear hd
    go_enter Try.func33, Try.ntmps33
    go_wp2_with fail
    go_ret
    rw [HG.out]
    exact ⟨rfl, H.out, World.grownBy.refl _ _⟩
  | false =>
    rw [hd] at k4
    by_cases hbad : n < 0 ∨ (m.b.length : Int) < n
    · have HG : Hid (tCut m n = (m, 1)) := Lib.hid (by rw [tCut, if_neg (by rw [hd]; simp), if_pos hbad])
      clear hd
      rcases hbad with h1 | h1
      · go_enter Try.func33, Try.ntmps33
        go_wp2_with fail
        go_ret
        rw [HG.out]
        exact ⟨rfl, H.out, World.grownBy.refl _ _⟩
      · go_enter Try.func33, Try.ntmps33
        go_wp2_with fail
        go_ret
        rw [HG.out]
        exact ⟨rfl, H.out, World.grownBy.refl _ _⟩
    · obtain ⟨k, rfl⟩ : ∃ k : Nat, n = (k : Int) := ⟨n.toNat, by omega⟩
      have HG : Hid (tCut m (k : Int) = ({ m with b := m.b.take k, synced := k }, 0)) := Lib.hid (by rw [tCut, if_neg (by rw [hd]; simp), if_neg hbad, Int.toNat_natCast])
      have hkl : (k : Int) ≤ (m.b.length : Int) := by omega
      have hsl : ∀ u : World, (Instr.slice 9 (.string (Bstr m.b)) none (some (.int .i64 (k : Int))) none).run Try.prog u = .ok (.string (Bstr (m.b.take k))) u := fun u => by
        rw [run_slice_string_h u _ _ strT .i64 (k : Int) (by omega) (by omega), Int.toNat_natCast, Bstr_take]
      have HD := Lib.hid ((H.out.b_ (m.b.take k)).sync_ k)
      have hg := grown_trans (grown_set w g 3 (.string (Bstr (m.b.take k)))) (grown_set (w.setCell ⟨g, 3, none⟩ (.string (Bstr (m.b.take k)))) g 1 (.int .i64 (k : Int)))
      clear hd hbad
      go_enter Try.func33, Try.ntmps33
      go_wp2_with fail
      go_ret
      rw [HG.out]
      exact ⟨rfl, HD.out, hg⟩

set_option maxHeartbeats 1600000 in
theorem dcrash_any {w : World} {g : Nat} {m : Tm} (keep : Int) (h : DT w g m) (hm : m.fine) (hk0 : -9223372036854775808 ≤ keep) (hk1 : keep ≤ 9223372036854775807) :
    Calls Try.prog 22 #[.pointer (some ⟨g, 0, none⟩), .int .i64 keep] w fun e w' => e = .returned (.tuple #[]) ∧ DT w' g (tCrash m keep) ∧ w.grownBy w' (some g) := by
  have H := Lib.hid h
  have k1 := Blk.cell h 1
  have k2 := Blk.cell h 2
  have k3 := Blk.cell h 3
  have k4 := Blk.cell h 4
  have f1 := Blk.frozen h 1
  have f2 := Blk.frozen h 2
  have f3 := Blk.frozen h 3
  have f4 := Blk.frozen h 4
  simp at k1 k2 k3 k4
  have zm : (Bstr m.b).size = m.b.length := Bstr_size _
  have hsy := hm.sync
  have hlen := hm.len
  have hr1 := hm.room1
  clear h hm
  cases hd : m.down with
  | true =>
    have HG : Hid (tCrash m keep = m) := Lib.hid (by rw [tCrash, if_pos hd])
    rw [hd] at k4
    clear hd
    go_enter Try.func22, Try.ntmps22
    go_wp2_with fail
    refine bodyPost_ret (results_none rfl _ _ _) rfl ?_
    rw [HG.out]
    exact ⟨rfl, H.out, World.grownBy.refl _ _⟩
  | false =>
    rw [hd] at k4
    have HG : Hid (tCrash m keep = { m with synced := m.synced + tMore m keep, b := m.b.take (m.synced + tMore m keep), down := true, left := -1 }) := Lib.hid (by rw [tCrash, if_neg (by rw [hd]; simp)])
    have hle := tMore_le hsy keep
    have hmore : ((tMore m keep : Nat) : Int) = if keep < (m.b.length : Int) - m.synced then (if keep < 0 then 0 else keep) else (m.b.length : Int) - m.synced := by
      unfold tMore
      split
      · split <;> omega
      · omega
    obtain ⟨N, hN⟩ : ∃ N, N = m.synced + tMore m keep := ⟨_, rfl⟩
    rw [← hN] at HG hle
    have hsl : ∀ u : World, (Instr.slice 9 (.string (Bstr m.b)) none (some (.int .i64 (N : Int))) none).run Try.prog u = .ok (.string (Bstr (m.b.take N))) u := fun u => by
      rw [run_slice_string_h u _ _ strT .i64 (N : Int) (by omega) (by omega), Int.toNat_natCast, Bstr_take]
    have HEND : Hid (∀ (u : World), DT u g { m with synced := N, b := m.b.take N } → w.grownBy u (some g) → DT ((u.setCell ⟨g, 4, none⟩ (.bool true)).setCell ⟨g, 2, none⟩ (.int .i64 (-1))) g { m with synced := N, b := m.b.take N, down := true, left := -1 } ∧
        w.grownBy ((u.setCell ⟨g, 4, none⟩ (.bool true)).setCell ⟨g, 2, none⟩ (.int .i64 (-1))) (some g)) := Lib.hid fun u hu hgu =>
      ⟨(hu.down_ true).left_ (-1), grown_trans (grown_trans hgu (grown_set _ _ _ _)) (grown_set _ _ _ _)⟩
    have HSY := Lib.hid fun (n : Nat) => DT.sync_ (Blk.drewN H.out n : DT (w.drewN n) g m) N
    have HGS := Lib.hid fun (n : Nat) => grown_trans (grown_drewN (World.grownBy.refl w (some g)) n) (grown_set (w.drewN n) g 1 (.int .i64 (N : Int)))
    have hcases : (keep < (m.b.length : Int) - m.synced ∧ keep < 0 ∧ (m.synced : Int) = (N : Int)) ∨ (keep < (m.b.length : Int) - m.synced ∧ 0 ≤ keep ∧ (m.synced : Int) + keep = (N : Int)) ∨ ((m.b.length : Int) - m.synced ≤ keep ∧ (m.b.length : Int) = (N : Int) ∧ (m.synced : Int) + ((N : Int) - m.synced) = (N : Int)) := by
      by_cases h1 : keep < (m.b.length : Int) - m.synced
      · rw [if_pos h1] at hmore
        by_cases h2 : keep < 0
        · rw [if_pos h2] at hmore
          exact .inl ⟨h1, h2, by omega⟩
        · rw [if_neg h2] at hmore
          exact .inr (.inl ⟨h1, by omega, by omega⟩)
      · rw [if_neg h1] at hmore
        exact .inr (.inr ⟨by omega, by omega, by omega⟩)
    clear hN hd hmore
    go_enter Try.func22, Try.ntmps22
    go_wp2_with fail
    go_quiet (fail)
    have l1 : (w.drewN nq).cell? ⟨g, 1, none⟩ = some (.int .i64 (m.synced : Int)) := k1
    have l2 : (w.drewN nq).cell? ⟨g, 2, none⟩ = some (.int .i64 m.left) := k2
    have l3 : (w.drewN nq).cell? ⟨g, 3, none⟩ = some (.string (Bstr m.b)) := k3
    have l4 : (w.drewN nq).cell? ⟨g, 4, none⟩ = some (.bool false) := k4
    rcases hcases with ⟨h1, h2, h3⟩ | ⟨h1, h2, h3⟩ | ⟨h1, h2, h3⟩
    all_goals
      go_wp2_with fail
      have hs3 : ((w.drewN nq).setCell ⟨g, 1, none⟩ (.int .i64 (N : Int))).drew.cell? ⟨g, 3, none⟩ = some (.string (Bstr m.b)) := by
        have := Blk.cell (HSY.out nq) 3
        simpa using this
      have hs1 : ((w.drewN nq).setCell ⟨g, 1, none⟩ (.int .i64 (N : Int))).drew.cell? ⟨g, 1, none⟩ = some (.int .i64 (N : Int)) := by
        have := Blk.cell (HSY.out nq) 1
        simpa using this
      refine wp_region_mix3 12 [(0, 0), (1, 0), (2, 0), (3, 0), (4, 0), (5, 0), (6, 0), (7, 0), (8, 0), (9, 0), (10, 0), (11, 0), (12, 2)] (fun u => u.cell? ⟨g, 3, none⟩ = some (.string (Bstr m.b)) ∧ u.cell? ⟨g, 1, none⟩ = some (.int .i64 (N : Int))) (by kernel_rfl) (by kernel_rfl) (by decide +kernel) rfl ⟨hs3, hs1⟩ ?_
      repeat
        (refine mix3_read (o := ⟨_, _, _, _, _, _⟩) (v := ?_) rfl (by rfl) (fun w' hS => ?_) ?_
         rotate_left
         obtain ⟨hS1, hS2⟩ := hS
         go_simp
         with_reducible rfl
         try simp only [Act.put, List.setIfInBounds_toArray, List.set_cons_zero, List.set_cons_succ])
      refine mix3_store (o := ⟨_, _, _, _, _, _⟩) rfl (fun K hK => ?_)
      have f3' : ((w.drewN nq).setCell ⟨g, 1, none⟩ (.int .i64 (N : Int))).drew.frozen? ⟨g, 3, none⟩ = false := Blk.frozen (HSY.out nq) 3
      go_simp
      refine hK.out _ _ ?_
      clear hK K
      refine mix3_done ?_
      have hd3 : DT (((w.drewN nq).setCell ⟨g, 1, none⟩ (.int .i64 (N : Int))).setCell ⟨g, 3, none⟩ (.string (Bstr (m.b.take N)))).drew g { m with synced := N, b := m.b.take N } := (HSY.out nq).b_ (m.b.take N)
      have hg3 : w.grownBy (((w.drewN nq).setCell ⟨g, 1, none⟩ (.int .i64 (N : Int))).setCell ⟨g, 3, none⟩ (.string (Bstr (m.b.take N)))).drew (some g) := grown_drewN (grown_trans (HGS.out nq) (grown_set _ _ _ _)) 1
      have HHG := Lib.hid HG.out
      clear hs3 hs1 l1 l2 l3 l4 k1 k2 k3 k4 f1 f2 f3 f4 f3' HSY HGS H
      generalize (((w.drewN nq).setCell ⟨g, 1, none⟩ (.int .i64 (N : Int))).setCell ⟨g, 3, none⟩ (.string (Bstr (m.b.take N)))).drew = W at *
      have p2 := Blk.cell hd3 2
      have p4 := Blk.cell hd3 4
      have q2 := Blk.frozen hd3 2
      have q4 := Blk.frozen hd3 4
      simp at p2 p4
      have HE := Lib.hid (HEND.out W hd3 hg3)
      clear hd3 hg3 HEND
      go_wp2_with fail
      refine bodyPost_end (results_none rfl _ _ _) rfl ?_
      rw [HHG.out]
      exact ⟨rfl, HE.out⟩
end Go.Proofs.Ytdfjicjlmejonaa

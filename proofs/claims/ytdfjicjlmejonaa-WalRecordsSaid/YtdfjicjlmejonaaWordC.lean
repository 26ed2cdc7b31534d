/-
  CONTRACTS of package word: Read, and the methods of Reader.
-/
import Derived.Test.YtdfjicjlmejonaaWordB
import Derived.IntWalk
import Derived.StillTailTactics
namespace Go.Proofs.Ytdfjicjlmejonaa
open Go.RowKit

/-- a Reader in block g, over the bytes l, behind p of them -/
structure WR (w : World) (g : Nat) (v : Value) (l : List UInt8) (p : Nat) (bad : Bool) : Prop where
  blk : Blk w g 83 #[v, .int .i64 p, .bool bad]
  bs : Bs w v l
  le : p ≤ l.length
  ne : l ≠ [] → v.ownBlock ≠ some g

theorem left_any (g : Nat) (v : Value) (l : List UInt8) (p : Nat) (bad : Bool) (w : World) (h : WR w g v l p bad) :
    Calls Try.prog 51 #[.pointer (some ⟨g, 0, none⟩)] w fun e w' => e = .returned (.int .i64 ((l.length : Int) - p)) ∧ ∃ n, w' = w.drewN n := by
  obtain ⟨A, c, rfl, hc1, hc2, hr⟩ := h.bs
  have h0 := h.blk.cell 0
  have h1 := h.blk.cell 1
  have hle := h.le
  simp at h0 h1
  go_enter Try.func51, Try.ntmps51
  go_wp2
  go_quiet (fail)
  go_wp2
  go_ret
  exact ⟨rfl, _, rfl⟩

theorem read_any (v : Value) (l : List UInt8) (w : World) (h : Bs w v l) :
    Calls Try.prog 42 #[v] w fun e w' => e = .returned (.pointer (some ⟨w.heap.size, 0, none⟩)) ∧ WR w' w.heap.size v l 0 false ∧ Below w.heap.size w w' := by
  have hb := h
  obtain ⟨A, c, rfl, hc1, hc2, hr⟩ := h
  go_enter Try.func42, Try.ntmps42
  go_wp2
  go_ret
  refine ⟨rfl, ⟨Blk.new _ _ _, hb.alloc _, Nat.zero_le _, ?_⟩, (Below.refl _ _).alloc (Nat.le_refl _) _⟩
  intro hl e
  obtain ⟨k, hk, hlt⟩ := hb.block hl
  rw [hk] at e
  injection e with e
  omega

theorem WR.drewN {w : World} {g : Nat} {v : Value} {l : List UInt8} {p : Nat} {bad : Bool} (h : WR w g v l p bad) (n : Nat) : WR (w.drewN n) g v l p bad := ⟨h.blk, h.bs, h.le, h.ne⟩
theorem WR.drew {w : World} {g : Nat} {v : Value} {l : List UInt8} {p : Nat} {bad : Bool} (h : WR w g v l p bad) : WR w.drew g v l p bad := ⟨h.blk, h.bs, h.le, h.ne⟩
theorem WR.grown {w w' : World} {row : Option Nat} {g : Nat} {v : Value} {l : List UInt8} {p : Nat} {bad : Bool} (h : WR w g v l p bad) (hg : w.grownBy w' row) (hne : some g ≠ row) (hv : l ≠ [] → v.ownBlock ≠ row) : WR w' g v l p bad := ⟨h.blk.grown hg hne, h.bs.grown hg hv, h.le, h.ne⟩
theorem WR.setBad {w : World} {g : Nat} {v : Value} {l : List UInt8} {p : Nat} {bad : Bool} (h : WR w g v l p bad) (b : Bool) : WR (w.setCell ⟨g, 2, none⟩ (.bool b)) g v l p b :=
  ⟨h.blk.set_ 2 _, h.bs.grown (grown_set w g 2 _) h.ne, h.le, h.ne⟩
theorem WR.setAt {w : World} {g : Nat} {v : Value} {l : List UInt8} {p : Nat} {bad : Bool} (h : WR w g v l p bad) (q : Nat) (hq : q ≤ l.length) (n : Int) (hn : n = (q : Int)) : WR (w.setCell ⟨g, 1, none⟩ (.int .i64 n)) g v l q bad := by
  subst hn
  exact ⟨h.blk.set_ 1 _, h.bs.grown (grown_set w g 1 _) h.ne, hq, h.ne⟩

theorem WR.below {w w' : World} {g : Nat} {v : Value} {l : List UInt8} {p : Nat} {bad : Bool} (h : WR w g v l p bad) (hb : Below w.heap.size w w') : WR w' g v l p bad := ⟨h.blk.below hb h.blk.lt, h.bs.below hb, h.le, h.ne⟩
theorem WR.alloc {w : World} {g : Nat} {v : Value} {l : List UInt8} {p : Nat} {bad : Bool} (h : WR w g v l p bad) (o : Obj) : WR (w.alloc o) g v l p bad := ⟨h.blk.alloc o, h.bs.alloc o, h.le, h.ne⟩
/-- is a number of the width k there? -/
def wordOk (l : List UInt8) (p : Nat) (bad : Bool) (k : Int) : Bool := !bad && isW k && decide (k ≤ (l.length : Int) - p)

set_option maxHeartbeats 400000 in
theorem word_no (g : Nat) (v : Value) (l : List UInt8) (p : Nat) (bad : Bool) (k : Int) (w : World) (h : WR w g v l p bad) (hk : wordOk l p bad k = false) :
    Calls Try.prog 43 #[.pointer (some ⟨g, 0, none⟩), .int .i64 k] w fun e w' => e = .returned (.int .u64 0) ∧ WR w' g v l p true ∧ w.grownBy w' (some g) := by
  have h2 := h.blk.cell 2
  have f2 := h.blk.frozen 2
  simp at h2
  cases bad with
  | true =>
    clear hk
    go_enter Try.func43, Try.ntmps43
    go_wp2_with fail
    go_ret
    exact ⟨rfl, h.setBad true, grown_set _ _ _ _⟩
  | false =>
    cases hw : isW k with
    | false =>
      clear hk
      have HW := Lib.hid hw
      clear hw
      go_enter Try.func43, Try.ntmps43
      go_wp2_with (go_at_call 50; refine (isWidth_any _ _).mono ?_; rintro e w' ⟨rfl, rfl⟩; rw [HW.out])
      go_ret
      exact ⟨rfl, h.setBad true, grown_set _ _ _ _⟩
    | true =>
      have hn : ¬ k ≤ (l.length : Int) - p := by simpa [wordOk, hw] using hk
      clear hk
      have HW := Lib.hid hw
      clear hw
      go_enter Try.func43, Try.ntmps43
      go_wp2_with (first | (go_at_call 50; refine (isWidth_any _ _).mono ?_; rintro e w' ⟨rfl, rfl⟩; rw [HW.out]) | (go_at_call 51; refine (left_any g v l p false _ h).mono ?_; rintro e w' ⟨rfl, n, rfl⟩))
      go_ret
      exact ⟨rfl, (h.drewN n).setBad true, grown_drewN_left (grown_set _ _ _ _)⟩

theorem elemB : Try.prog.elem 22 = 5 := by kernel_rfl

set_option maxHeartbeats 400000 in
theorem word_yes (g : Nat) (v : Value) (l : List UInt8) (p : Nat) (bad : Bool) (k : Int) (w : World) (h : WR w g v l p bad) (hk : wordOk l p bad k = true) :
    Calls Try.prog 43 #[.pointer (some ⟨g, 0, none⟩), .int .i64 k] w fun e w' => e = .returned (.int .u64 (num ((l.drop p).take k.toNat))) ∧ WR w' g v l (p + k.toNat) false ∧ w.grownBy w' (some g) := by
  have hk3 : bad = false ∧ isW k = true ∧ k ≤ (l.length : Int) - p := by simpa [wordOk, and_assoc] using hk
  obtain ⟨rfl, hw, hn⟩ := hk3
  have hle := h.le
  have h8 := isW_cases hw
  obtain ⟨k, rfl⟩ := nat_of (n := k) (by omega)
  rw [Int.toNat_natCast]
  have hk8 : 1 ≤ k ∧ k ≤ 8 := by omega
  clear h8 hk
  have HW := Lib.hid hw
  clear hw
  have hv := h.bs
  obtain ⟨A, c, rfl, hc1, hc2, hr⟩ := hv
  have h0 := h.blk.cell 0
  have h1 := h.blk.cell 1
  have h2 := h.blk.cell 2
  have f1 := h.blk.frozen 1
  simp at h0 h1 h2
  obtain ⟨V, hsl, hV, _⟩ := slice_bytes (P := Try.prog) w byteT elemB hr hc1 hc2 p (p + k) (by omega) (by omega) (p : Int) ((p : Int) + (k : Int)) rfl (by omega)
  rw [Nat.add_sub_cancel_left] at hV
  have hlen : ((l.drop p).take k).length ≤ 8 := by simp; omega
  have hwr : IntKind.i64.wrap ((p : Int) + (k : Int)) = (p : Int) + (k : Int) := IntWalk.i64_in _ (by omega)
  go_enter Try.func43, Try.ntmps43
  go_wp2_with (first | (go_at_call 50; refine (isWidth_any _ _).mono ?_; rintro e w' ⟨rfl, rfl⟩; rw [HW.out]) | (go_at_call 51; refine (left_any g _ l p false _ h).mono ?_; rintro e w' ⟨rfl, n, rfl⟩))
  go_quiet ((go_at_call 52; exact (number_any ((l.drop p).take k) V _ hlen (by exact hV)).mono fun _ _ ⟨h1, h2⟩ => ⟨h1, _, h2.symm⟩))
  clear hwr hsl
  go_wp2
  go_ret
  exact ⟨rfl, (h.drewN _).setAt (p + k) (by omega) _ (by omega), grown_drewN_left (grown_set _ _ _ _)⟩

/-- how many bytes the text that stands next has -/
def tsize (l : List UInt8) (p : Nat) : Nat := num ((l.drop p).take 2)
theorem tsize_lt (l : List UInt8) (p : Nat) : tsize l p < 65536 := by
  have h := num_lt ((l.drop p).take 2)
  have h3 : 256 ^ ((l.drop p).take 2).length ≤ 256 ^ 2 := Nat.pow_le_pow_right (by omega) (by simp; omega)
  unfold tsize
  omega

theorem number_ts (l : List UInt8) (p : Nat) (V : Value) (w : World) (hV : Bs w V ((l.drop p).take 2)) :
    Calls Try.prog 52 #[V] w fun e w' => e = .returned (.int .u64 (tsize l p)) ∧ w = w' :=
  number_any _ V w (by simp; omega) hV

/-- is a text of at most that many bytes there? -/
def textOk (l : List UInt8) (p : Nat) (bad : Bool) (most : Int) : Bool := !bad && decide (2 ≤ (l.length : Int) - p) && decide ((tsize l p : Int) ≤ (l.length : Int) - p - 2) && decide ((tsize l p : Int) ≤ most)

theorem take_fill (l : List UInt8) (n : Nat) (h : n ≤ l.length) : l.take (List.replicate n (0 : UInt8)).length ++ (List.replicate n (0 : UInt8)).drop l.length = l.take n := by
  have hd : (List.replicate n (0 : UInt8)).drop l.length = [] := List.drop_eq_nil_of_le (by simpa using h)
  rw [hd, List.length_replicate, List.append_nil]

end Go.Proofs.Ytdfjicjlmejonaa

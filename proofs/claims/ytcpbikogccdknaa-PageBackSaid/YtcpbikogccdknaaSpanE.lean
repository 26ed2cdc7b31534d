/-
  WHAT BYTES ARE READ AS, as spans (plain functions); CONTRACTS of span.place, span.amiss, span.next.
-/
import Derived.Test.YtcpbikogccdknaaSpanD
import Derived.Test.YtcpbikogccdknaaErrB
namespace Go.Proofs.Ytcpbikogccdknaa
open Go.RowKit

/-- how far the reader is behind a number in a width of 8, and whether something is amiss then -/
def wp8 (l : List UInt8) (x : Nat × Bool) : Nat × Bool := (wNext l x.1 x.2 8, !wordOk l x.1 x.2 8)
def wo8 (l : List UInt8) (x : Nat × Bool) : Nat := wOut l x.1 x.2 8
/-- what stands next, as a span, and how far the reader is then -/
def rdSpan (most : Int) (l : List UInt8) (x : Nat × Bool) : Sn :=
  ⟨wo8 l x, wo8 l (wp8 l x), wrap64 (wo8 l (wp8 l (wp8 l x))), wrap64 (wo8 l (wp8 l (wp8 l (wp8 l x)))), tOut l (wp8 l (wp8 l (wp8 l (wp8 l x)))).1 (wp8 l (wp8 l (wp8 l (wp8 l x)))).2 most⟩
def rdNext (most : Int) (l : List UInt8) (x : Nat × Bool) : Nat × Bool :=
  (tNext l (wp8 l (wp8 l (wp8 l (wp8 l x)))).1 (wp8 l (wp8 l (wp8 l (wp8 l x)))).2 most, !textOk l (wp8 l (wp8 l (wp8 l (wp8 l x)))).1 (wp8 l (wp8 l (wp8 l (wp8 l x)))).2 most)
/-- the spans from a byte on, so many of them; or where they aren't -/
def goS (most : Int) (l : List UInt8) : Nat → Nat → Except Nat (List Sn)
  | 0, p => if p < l.length then .error p else .ok []
  | n + 1, p =>
    if (rdNext most l (p, false)).2 = true then .error (rdNext most l (p, false)).1
    else if mayB (rdSpan most l (p, false)) = false then .error p
    else match goS most l n (rdNext most l (p, false)).1 with
      | .ok r => .ok (rdSpan most l (p, false) :: r)
      | .error e => .error e
/-- the spans of bytes, or where they aren't -/
def getS (most : Int) (l : List UInt8) : Except Nat (List Sn) := if wordOk l 0 false 2 = true then goS most l (wOut l 0 false 2) (wNext l 0 false 2) else .error 0
def prep (acc : List Sn) : Except Nat (List Sn) → Except Nat (List Sn)
  | .ok r => .ok (acc ++ r)
  | .error e => .error e

theorem wo8_lt (l : List UInt8) (x : Nat × Bool) : wo8 l x < 18446744073709551616 := by
  unfold wo8 wOut
  split
  · exact num_lt8 _ (by simp [List.length_take]; omega)
  · omega

theorem place_any (g : Nat) (v : Value) (l : List UInt8) (p : Nat) (bad : Bool) (w : World) (h : WR w g v l p bad) :
    Calls Try.prog 68 #[v, .pointer (some ⟨g, 0, none⟩)] w fun e w' => e = .returned (.int .i64 (p : Int)) ∧ ∃ n, w' = w.drewN n := by
  obtain ⟨A, c, rfl, hc1, hc2, hr⟩ := h.bs
  have hle := h.le
  go_enter Try.func68, Try.ntmps68
  go_wp2_with fail
  refine (left_any _ _ _ _ _ _ h).mono ?_
  rintro e w1 ⟨rfl, n, rfl⟩
  go_wp2_with fail
  go_ret
  exact ⟨ret_int (by omega), n, rfl⟩

theorem amiss_any (at_ : Int) (w : World) :
    Calls Try.prog 70 #[.int .i64 at_] w fun e w' => ∃ v, e = .returned v ∧ Sp w' v at_ 2 ∧ Below w.heap.size w w' := by
  go_enter Try.func70, Try.ntmps70
  go_wp2_with fail
  go_ret
  exact ⟨_, rfl, ⟨_, rfl, Blk.new _ _ _⟩, (Below.refl _ _).alloc (Nat.le_refl _) _⟩

/-- how many bytes the program's reader takes a text to have at most -/
def nextMost : Int := 65535

theorem word8 (g : Nat) (v : Value) (l : List UInt8) (x : Nat × Bool) (w : World) (h : WR w g v l x.1 x.2) :
    Calls Try.prog 48 #[.pointer (some ⟨g, 0, none⟩), .int .i64 8] w fun e w' => e = .returned (.int .u64 (wo8 l x)) ∧ WR w' g v l (wp8 l x).1 (wp8 l x).2 ∧ w.grownBy w' (some g) := word_all g v l x.1 x.2 8 w h

set_option maxRecDepth 100000 in
set_option maxHeartbeats 1600000 in
theorem next_any (g : Nat) (v : Value) (l : List UInt8) (x : Nat × Bool) (w : World) (h : WR w g v l x.1 x.2) :
    Calls Try.prog 69 #[.pointer (some ⟨g, 0, none⟩)] w fun e w' => ∃ d, e = .returned (.agg #[.int .u64 (rdSpan nextMost l x).tr, .int .u64 (rdSpan nextMost l x).id, .int .i64 (rdSpan nextMost l x).st, .int .i64 (rdSpan nextMost l x).en, d]) ∧
      Own w' w.heap.size 5 d (rdSpan nextMost l x).data ∧ WR w' g v l (rdNext nextMost l x).1 (rdNext nextMost l x).2 ∧ w.grownBy w' (some g) := by
  have hlt := h.blk.lt
  have hG := grown_of_below ((Below.refl w.heap.size w).alloc (Nat.le_refl _) (.cells #[.int .u64 0, .int .u64 0, .int .i64 0, .int .i64 0, .slice none 0 0] 55)) (some g)
  have hBl := Blk.new w 55 #[.int .u64 0, .int .u64 0, .int .i64 0, .int .i64 0, .slice none 0 0]
  have hne : some w.heap.size ≠ some g := by intro e; injection e; omega
  have HBL := Lib.hid hBl
  clear hBl
  go_enter Try.func69, Try.ntmps69
  go_wp2_with fail
  refine (word8 g v l x _ (h.alloc _)).mono ?_
  rintro e w1 ⟨rfl, h1, g1⟩
  go_wp2_with fail
  refine (word8 g v l _ _ h1).mono ?_
  rintro e w2 ⟨rfl, h2, g2⟩
  go_wp2_with fail
  refine (word8 g v l _ _ h2).mono ?_
  rintro e w3 ⟨rfl, h3, g3⟩
  go_wp2_with fail
  refine (word8 g v l _ _ h3).mono ?_
  rintro e w4 ⟨rfl, h4, g4⟩
  go_wp2_with fail
  refine (rtext_all g v l _ _ _ _ h4).mono ?_
  rintro e w5 ⟨d, rfl, hown, h5, g5⟩
  have hG4 := grown_trans (grown_trans (grown_trans (grown_trans hG g1) g2) g3) g4
  have hG5 := grown_trans hG4 g5
  have hz4 := hG4.size
  have hB4 := (((HBL.out.grown g1 hne).grown g2 hne).grown g3 hne).grown g4 hne
  have hB5 := hB4.grown g5 hne
  have f0 := hB5.frozen 0
  have f1 := hB5.frozen 1
  have f2 := hB5.frozen 2
  have f3 := hB5.frozen 3
  have f4 := hB5.frozen 4
  have c0 := hB5.cell 0
  have c1 := hB5.cell 1
  have c2 := hB5.cell 2
  have c3 := hB5.cell 3
  have c4 := hB5.cell 4
  simp at c0 c1 c2 c3 c4
  have hlB4 := hB4.lt
  obtain ⟨A', c', hdv, _⟩ := hown.form
  have HOW := Lib.hid hown
  clear hG g1 g2 g3 g4 g5 h1 h2 h3 h4 HBL hown
  subst hdv
  go_wp2_with fail
  have HB6 := Lib.hid (((((hB5.set_ 0 (.int .u64 (wo8 l x))).set_ 1 (.int .u64 (wo8 l (wp8 l x)))).set_ 2 (.int .i64 (wrap64 (wo8 l (wp8 l (wp8 l x)))))).set_ 3 (.int .i64 (wrap64 (wo8 l (wp8 l (wp8 l (wp8 l x))))))).set_ 4 (.slice A' (tOut l (wp8 l (wp8 l (wp8 l (wp8 l x)))).fst (wp8 l (wp8 l (wp8 l (wp8 l x)))).snd 65535).length c'))
  have HG6 := Lib.hid (grown_trans (grown_trans (grown_trans (grown_trans (grown_set w5 w.heap.size 0 (.int .u64 (wo8 l x))) (grown_set _ w.heap.size 1 (.int .u64 (wo8 l (wp8 l x))))) (grown_set _ w.heap.size 2 (.int .i64 (wrap64 (wo8 l (wp8 l (wp8 l x))))))) (grown_set _ w.heap.size 3 (.int .i64 (wrap64 (wo8 l (wp8 l (wp8 l (wp8 l x)))))))) (grown_set _ w.heap.size 4 (.slice A' (tOut l (wp8 l (wp8 l (wp8 l (wp8 l x)))).fst (wp8 l (wp8 l (wp8 l (wp8 l x)))).snd 65535).length c')))
  revert HB6 HG6
  generalize ((((w5.setCell ⟨w.heap.size, 0, none⟩ _).setCell ⟨w.heap.size, 1, none⟩ _).setCell ⟨w.heap.size, 2, none⟩ _).setCell ⟨w.heap.size, 3, none⟩ _).setCell ⟨w.heap.size, 4, none⟩ _ = w6
  intro HB6 HG6
  have k0 := HB6.out.cell 0
  have k1 := HB6.out.cell 1
  have k2 := HB6.out.cell 2
  have k3 := HB6.out.cell 3
  have k4 := HB6.out.cell 4
  simp at k0 k1 k2 k3 k4
  have hvn : l ≠ [] → v.ownBlock ≠ some w.heap.size := fun hl e => by
    obtain ⟨k, hk, hk'⟩ := h.bs.block hl
    rw [e] at hk
    injection hk
    omega
  refine bodyPost_ret (v := .agg #[.int .u64 (wo8 l x), .int .u64 (wo8 l (wp8 l x)), .int .i64 (wrap64 (wo8 l (wp8 l (wp8 l x)))), .int .i64 (wrap64 (wo8 l (wp8 l (wp8 l (wp8 l x))))), .slice A' (tOut l (wp8 l (wp8 l (wp8 l (wp8 l x)))).fst (wp8 l (wp8 l (wp8 l (wp8 l x)))).snd 65535).length c']) (by simp [results, Try.results69, go_sem, k0, k1, k2, k3, k4]) rfl ⟨_, rfl, ?_, ?_, ?_⟩
  · exact (HOW.out.kept HG6.out (.inr (HOW.out.ne_ hlB4))).lower hz4
  · exact h5.grown HG6.out (fun e => hne e.symm) hvn
  · exact ⟨HG6.out.os.trans hG5.os, HG6.out.tape.trans hG5.tape, HG6.out.output.trans hG5.output, Nat.le_trans hG5.size HG6.out.size, fun i hi hn => (HG6.out.block i (Nat.lt_of_lt_of_le hi hG5.size) (by intro e; injection e; omega)).trans (hG5.block i hi hn)⟩

end Go.Proofs.Ytcpbikogccdknaa

/-
  CONTRACTS of package word: Put, Text.
-/
import Derived.Test.YtdfjicjlmejonaaWordA
namespace Go.Proofs.Ytdfjicjlmejonaa
open Go.RowKit

/-- does Put take the number in that width? -/
def putOk (k n : Int) : Bool := isW k && decide (n.toNat < 256 ^ k.toNat)

theorem isW_cases {k : Int} (h : isW k = true) : k = 1 ∨ k = 2 ∨ k = 4 ∨ k = 8 := by simpa [isW, or_assoc] using h

/-- an error that is one of api's, itself -/
abbrev code (n : Int) : Value := .iface 61 (.int .i64 n)

set_option maxHeartbeats 400000 in
theorem put_bad (v : Value) (k n : Int) (w : World) (h0 : 0 ≤ n) (h : putOk k n = false) :
    Calls Try.prog 59 #[v, .int .i64 k, .int .u64 n] w fun e w' => e = .returned (.tuple #[.slice none 0 0, code 1]) ∧ w = w' := by
  cases hk : isW k with
  | false =>
    have HK := Lib.hid hk
    clear hk h
    go_enter Try.func59, Try.ntmps59
    go_wp2_with (go_at_call 50; refine (isWidth_any _ _).mono ?_; rintro e w' ⟨rfl, rfl⟩; rw [HK.out])
    go_ret2
    exact ⟨rfl, rfl⟩
  | true =>
    have hf : decide (n.toNat < 256 ^ k.toNat) = false := by simpa [putOk, hk] using h
    have HK := Lib.hid hk
    have HF := Lib.hid hf
    clear hk h hf
    go_enter Try.func59, Try.ntmps59
    go_wp2_with (first | (go_at_call 50; refine (isWidth_any _ _).mono ?_; rintro e w' ⟨rfl, rfl⟩; rw [HK.out]) | (go_at_call 61; refine (fits_any _ _ _ HK.out h0).mono ?_; rintro e w' ⟨rfl, rfl⟩; rw [HF.out]))
    go_ret2
    exact ⟨rfl, rfl⟩

set_option maxHeartbeats 400000 in
theorem put_ok (l : List UInt8) (v : Value) (k n : Int) (w : World) (h0 : 0 ≤ n) (h : putOk k n = true) (hl : l.length ≤ 140737488355320) (hv : Bs w v l) :
    Calls Try.prog 59 #[v, .int .i64 k, .int .u64 n] w fun e w' =>
      ∃ v', e = .returned (.tuple #[v', .nilIface]) ∧ Own w' w.heap.size 5 v' (l ++ bet n.toNat k.toNat) ∧ Below w.heap.size w w' := by
  have hk : isW k = true := by simp [putOk] at h; exact h.1
  have hf : decide (n.toNat < 256 ^ k.toNat) = true := by simp [putOk] at h; simpa using h.2
  have h8 : 0 ≤ k ∧ k ≤ 8 := by have := isW_cases hk; omega
  have HK := Lib.hid hk
  have HF := Lib.hid hf
  clear hk h hf
  go_enter Try.func59, Try.ntmps59
  go_wp2_with (first | (go_at_call 50; refine (isWidth_any _ _).mono ?_; rintro e w' ⟨rfl, rfl⟩; rw [HK.out]) | (go_at_call 61; refine (fits_any _ _ _ HK.out h0).mono ?_; rintro e w' ⟨rfl, rfl⟩; rw [HF.out]))
  refine (copyWithRoom_any l v k _ (by omega) (by omega) hv).mono ?_
  rintro e w1 ⟨v1, rfl, hown1, hb1⟩
  go_wp2_with fail
  refine (appendNumber_any l v1 w.heap.size k n _ (by omega) (by omega) h0 hown1 (by omega) hb1.size).mono ?_
  rintro e w2 ⟨v2, rfl, hown2, hb2⟩
  go_wp2_with fail
  go_ret2
  exact ⟨v2, rfl, hown2, hb1.trans hb2⟩

set_option maxHeartbeats 400000 in
theorem text_bad (s : List UInt8) (v u : Value) (w : World) (hs : 65535 < s.length) (hs' : s.length ≤ 140737488355328) (hu : Bs w u s) :
    Calls Try.prog 48 #[v, u] w fun e w' => e = .returned (.tuple #[.slice none 0 0, code 3]) ∧ w = w' := by
  obtain ⟨A, c, rfl, hc1, hc2, hr⟩ := hu
  go_enter Try.func48, Try.ntmps48
  go_wp2_with fail
  go_ret2
  exact ⟨rfl, rfl⟩

theorem text_ok (l s : List UInt8) (v u : Value) (w : World) (hs : s.length ≤ 65535) (hl : l.length ≤ 140737488289790) (hv : Bs w v l) (hu : Bs w u s) :
    Calls Try.prog 48 #[v, u] w fun e w' =>
      ∃ v', e = .returned (.tuple #[v', .nilIface]) ∧ Own w' w.heap.size 5 v' (l ++ (bet s.length 2 ++ s)) ∧ Below w.heap.size w w' := by
  obtain ⟨A, c, rfl, hc1, hc2, hr⟩ := hu
  have h1 : ((s.length : Int)).toNat = s.length := Int.toNat_natCast _
  have H1 := Lib.hid h1
  clear h1
  go_enter Try.func48, Try.ntmps48
  go_wp2_with fail
  refine (copyWithRoom_any l v _ _ (by omega) (by omega) hv).mono ?_
  rintro e w1 ⟨v1, rfl, hown1, hb1⟩
  go_wp2_with fail
  refine (appendNumber_any l v1 w.heap.size _ _ _ (by omega) (by omega) (by omega) hown1 (by omega) hb1.size).mono ?_
  rintro e w2 ⟨v2, rfl, hown2, hb2⟩
  rw [H1.out] at hown2
  have hb : Below w.heap.size w w2 := hb1.trans hb2
  go_wp2_with (at_builtin; refine wpList_append_bytes _ byteT rfl _ _ rfl w.heap.size _ _ rfl hown2 _ _ _ s rfl rfl (hr.below hb) ?c1 hb.size ?_)
  case c1 => simp [bet_length]; omega
  intro v3 w3 hown3 hg3 h3
  go_wp2_with fail
  go_ret2
  exact ⟨v3, rfl, hown3, hb.grown hg3 hb.size hown2.ge⟩

end Go.Proofs.Ytdfjicjlmejonaa

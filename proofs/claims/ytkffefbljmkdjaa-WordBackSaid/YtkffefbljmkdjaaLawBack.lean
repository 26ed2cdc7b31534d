/-
  tankardlaw01.WordBack returns true for every input, and each argument reads afterwards as it read before. No condition.
-/
import Derived.Test.YtkffefbljmkdjaaWordG
import Derived.Test.YtkffefbljmkdjaaRow
namespace Go.Proofs.Ytkffefbljmkdjaa
open Go.ChangeShapes Go.WideShapes Go.ChangeAt Go.RowKit

theorem num_bet (k : Nat) : ∀ n : Nat, n < 256 ^ k → num (bet n k) = n := by
  induction k with
  | zero => intro n hn; simp at hn; subst hn; rfl
  | succ k ih =>
    intro n hn
    rw [bet_snoc, num_snoc, ih (n / 256) (by rw [Nat.pow_succ] at hn; omega)]
    simp
    omega

/-- what was put: a number, a text, a number; and where each stands -/
theorem back_parts (n m k : Nat) (s : List UInt8) (hs : s.length ≤ 65535) (hn : n < 256 ^ k) (hm : m < 256 ^ 8) (L : List UInt8) (hL : L = bet n k ++ (bet s.length 2 ++ s) ++ bet m 8) :
    L.length = k + 2 + s.length + 8 ∧ num ((L.drop 0).take k) = n ∧ tsize L k = s.length ∧ (L.drop (k + 2)).take s.length = s ∧ num ((L.drop (k + 2 + s.length)).take 8) = m := by
  have h1 := bet_length n k
  have h2 := bet_length s.length 2
  have h3 := bet_length m 8
  subst hL
  refine ⟨by simp [h1, h2, h3]; omega, ?_, ?_, ?_, ?_⟩
  · rw [List.drop_zero, List.append_assoc, List.take_append_of_le_length (by omega), List.take_of_length_le (by omega), num_bet k n hn]
  · unfold tsize
    rw [List.append_assoc, List.drop_append_of_le_length (by omega), List.drop_of_length_le (by omega), List.nil_append, List.append_assoc, List.take_append_of_le_length (by omega), List.take_of_length_le (by omega), num_bet 2 _ (by omega)]
  · have e : bet n k ++ (bet s.length 2 ++ s) ++ bet m 8 = (bet n k ++ bet s.length 2) ++ (s ++ bet m 8) := by simp
    rw [e, List.drop_append_of_le_length (by simp [h1, h2]), List.drop_of_length_le (by simp [h1, h2]), List.nil_append, List.take_append_of_le_length (by omega), List.take_of_length_le (by omega)]
  · have e : bet n k ++ (bet s.length 2 ++ s) ++ bet m 8 = (bet n k ++ bet s.length 2 ++ s) ++ bet m 8 := by simp
    rw [e, List.drop_append_of_le_length (by simp [h1, h2]; omega), List.drop_of_length_le (by simp [h1, h2]; omega), List.nil_append, List.take_of_length_le (by omega), num_bet 8 m hm]

set_option maxRecDepth 100000 in
set_option maxHeartbeats 1600000 in
theorem back_any (s : List UInt8) (u : Value) (k n m : Int) (w : World) (hu : Bs w u s) (hs : s.length ≤ 9223372036854775807) (h0 : 0 ≤ n) (hn : n < 18446744073709551616) (hm0 : 0 ≤ m) (hm : m < 18446744073709551616) :
    Calls Try.prog 5 #[.int .i64 k, .int .u64 n, u, .int .u64 m] w fun e w' => e = .returned (.bool true) ∧ Below w.heap.size w w' := by
  have hu' := hu
  obtain ⟨A, c, rfl, hc1, hc2, hr⟩ := hu'
  by_cases hlong : 2000 < s.length
  · go_enter Try.func5, Try.ntmps5
    go_wp2_with (go_at_call 6; refine (up_any _).mono ?_; rintro e w1 ⟨rfl, hb1⟩)
    go_ret
    exact ⟨rfl, hb1⟩
  cases hp : putOk k n with
  | false =>
    have HP := Lib.hid hp
    clear hp
    go_enter Try.func5, Try.ntmps5
    go_wp2_with fail
    refine (up_any _).mono ?_
    rintro e w1 ⟨rfl, hb1⟩
    go_wp2_with fail
    refine (put_bad _ k n _ h0 HP.out).mono ?_
    rintro e w2 ⟨rfl, rfl⟩
    go_wp2_with fail
    go_ret
    exact ⟨rfl, hb1⟩
  | true =>
    have hw : isW k = true := by simp [putOk] at hp; exact hp.1
    have hk8 := isW_cases hw
    have hf : n.toNat < 256 ^ k.toNat := by simp [putOk] at hp; exact hp.2
    obtain ⟨n, rfl⟩ := nat_of h0
    obtain ⟨m, rfl⟩ := nat_of hm0
    obtain ⟨k, rfl⟩ := nat_of (n := k) (by omega)
    have hk : 1 ≤ k ∧ k ≤ 8 := by omega
    have hp8 : putOk 8 m = true := by simp [putOk, isW]; omega
    obtain ⟨L, hL⟩ : ∃ L, L = bet n k ++ (bet s.length 2 ++ s) ++ bet m 8 := ⟨_, rfl⟩
    obtain ⟨hlen, hnum1, hts, htx, hnum2⟩ := back_parts n m k s (by omega) (by simpa using hf) (by omega) L hL
    have HL := Lib.hid hL
    have HN1 := Lib.hid hnum1
    have HTS := Lib.hid hts
    have HTX := Lib.hid htx
    have HN2 := Lib.hid hnum2
    have HP := Lib.hid hp
    have HP8 := Lib.hid hp8
    have hlen1 : L.length ≤ k + 2 + s.length + 8 := by omega
    have hlen2 : k + 2 + s.length + 8 ≤ L.length := by omega
    have HW := Lib.hid hw
    clear hp hw hk8 hf hL hnum1 hts htx hnum2 hlen hp8 hn hm
    go_enter Try.func5, Try.ntmps5
    go_wp2_with fail
    refine (up_any _).mono ?_
    rintro e w1 ⟨rfl, hb1⟩
    go_wp2_with fail
    refine (put_ok [] _ k n _ h0 HP.out (by simp) (Bs.nil _)).mono ?_
    rintro e w2 ⟨v2, rfl, hown2, hb2⟩
    rw [List.nil_append, Int.toNat_natCast, Int.toNat_natCast] at hown2
    have hz1 := hb1.size
    have hz2 := hb2.size
    go_wp2_with fail
    refine (text_ok (bet n k) s v2 _ _ (by omega) (by rw [bet_length]; omega) hown2.bs ((hu.below hb1).below hb2)).mono ?_
    rintro e w3 ⟨v3, rfl, hown3, hb3⟩
    have hz3 := hb3.size
    go_wp2_with fail
    refine (put_ok _ v3 8 m _ hm0 HP8.out (by simp [bet_length]; omega) hown3.bs).mono ?_
    rintro e w4 ⟨v4, rfl, hown4, hb4⟩
    rw [Int.toNat_natCast, show Int.toNat 8 = 8 from rfl, ← HL.out] at hown4
    have hz4 := hb4.size
    go_wp2_with fail
    refine (read_any v4 L _ hown4.bs).mono ?_
    rintro e w5 ⟨rfl, hW5, hb5⟩
    have hz5 := hb5.size
    have hbA : Below w.heap.size w w5 := (((hb1.trans (hb2.mono (by omega))).trans (hb3.mono (by omega))).trans (hb4.mono (by omega))).trans (hb5.mono (by omega))
    go_wp2_with fail
    have hok1 : wordOk L 0 false k = true := by simp [wordOk, HW.out]; omega
    have HOK1 := Lib.hid hok1
    clear hok1
    refine (word_yes _ v4 L 0 false k _ hW5 HOK1.out).mono ?_
    rintro e w6 ⟨rfl, hW6, hg6⟩
    rw [Int.toNat_natCast, HN1.out]
    rw [Int.toNat_natCast, Nat.zero_add] at hW6
    have hbA6 : Below w.heap.size w w6 := hbA.grown hg6 (by omega) (by intro j hj; injection hj; omega)
    go_wp2_with fail
    have hok2 : textOk L k false s.length = true := by simp [textOk, HTS.out]; omega
    have HOK2 := Lib.hid hok2
    clear hok2
    refine (rtext_yes _ v4 L k false s.length _ hW6 HOK2.out).mono ?_
    rintro e w7 ⟨v7, rfl, hown7, hW7, hg7⟩
    rw [HTS.out, HTX.out] at hown7
    rw [HTS.out] at hW7
    have hz6 := hbA6.size
    have hbA7 : Below w.heap.size w w7 := hbA6.grown hg7 (by omega) (by intro j hj; injection hj; omega)
    go_wp2_with fail
    have hok3 : wordOk L (k + 2 + s.length) false 8 = true := by simp [wordOk, isW]; omega
    have HOK3 := Lib.hid hok3
    clear hok3
    refine (word_yes _ v4 L (k + 2 + s.length) false 8 _ hW7 HOK3.out).mono ?_
    rintro e w8 ⟨rfl, hW8, hg8⟩
    rw [show Int.toNat 8 = 8 from rfl, HN2.out]
    rw [show Int.toNat 8 = 8 from rfl] at hW8
    have hz7 := hbA7.size
    have hbA8 : Below w.heap.size w w8 := hbA7.grown hg8 (by omega) (by intro j hj; injection hj; omega)
    have hst1 := strOf (hown7.bs.grown hg8 (fun _ => hown7.ne_ (by have := hg6.size; have := hW5.blk.lt; omega)))
    have hst2 := strOf (hu.below hbA8)
    have hle : (L.length : Int) - ((k + 2 + s.length + 8 : Nat) : Int) = 0 := by omega
    have HLE := Lib.hid hle
    clear hle hown4 hown3 hown2 hb1 hb2 hb3 hb4 hb5 hg6 hg7 hg8 hW5 hW6 hW7 hbA hbA6 hbA7 hown7
    go_wp2_with (first | (go_at_call 18; refine (left_any _ _ _ _ _ _ hW8).mono ?_; rintro e w9 ⟨rfl, nn, rfl⟩; rw [HLE.out]) | (go_at_call 19; refine (bad_any _ _ _ _ _ _ (hW8.drewN _)).mono ?_; rintro e w9 ⟨rfl, rfl⟩))
    go_ret
    exact ⟨rfl, below_drewN hbA8 _⟩

set_option maxRecDepth 100000 in
theorem wordBack_lifted (os : Os) (started : os.Started) (H : Type) (enc : TypeId × Value → H) :
    ReturnsInHanded {} Try.checked os 5 .any (Rows.wordBackSpec.pre6 enc Try.prog Try.f5 Rows.wordBackRow.domain false) (Rows.wordBackSpec.post enc Try.prog Try.f5 false true false false) := by
  refine returnsInHanded_of_change (C := Try.checked) ownK started (by kernel_rfl) Try.func5
    (ChangeSpec.witness6 (enc := enc) (C := Try.checked) false ⟨#[], #[.int .i64 0, .int .u64 0, .slice none 0 0, .int .u64 0], []⟩ 8 (by kernel_rfl) (by kernel_rfl) (by kernel_rfl) (by kernel_rfl)) ?_
  intro W base args ds gs before hval0 hW _ _
  have hval : ∀ (j : Nat) t v, Try.f5.params[j]? = some t → args[j]? = some v → Value.okWide Try.prog W .any base t v := hval0
  have hW' := hW
  obtain ⟨p, q, hA0, hV, rfl, hfz, hnd⟩ := hW
  have hA : DataW.TrodAll enc Try.prog W 0 (fun _ => true) true Try.f5.params.toList args.toList ds p := hA0
  rw [Try.params5] at hA hval
  obtain ⟨v0, v1, v2, v3, d0, d1, d2, d3, p0, p1, p2, p3, rfl, rfl, rfl, h0, h1, h2, h3⟩ := trodAll_four hA
  obtain ⟨rfl, rfl⟩ := trodVars_none hV
  obtain ⟨k, rfl, rfl, rfl, wk⟩ := open_int Try.underlying3 (hval 0 _ v0 rfl rfl) h0
  obtain ⟨n, rfl, rfl, rfl, wn⟩ := open_int Try.underlying23 (hval 1 _ v1 rfl rfl) h1
  obtain ⟨s, hs, hsm⟩ := bs_of_trod byteT cellsB (hval 2 _ v2 rfl rfl) h2
  obtain ⟨m, rfl, rfl, rfl, wm⟩ := open_int Try.underlying23 (hval 3 _ v3 rfl rfl) h3
  have hn : 0 ≤ n ∧ n ≤ 18446744073709551615 := by simpa [Lit.wf, IntKind.min, IntKind.max, IntKind.signed, IntKind.bits] using wn
  have hm : 0 ≤ m ∧ m ≤ 18446744073709551615 := by simpa [Lit.wf, IntKind.min, IntKind.max, IntKind.signed, IntKind.bits] using wm
  refine (back_any s v2 k n m W hs hsm hn.1 (by omega) hm.1 (by omega)).mono fun e W' ⟨he, hb⟩ => ?_
  subst he
  exact ⟨_, rfl, law_post (P := Try.prog) (f := Try.f5) (s := Rows.wordBackSpec) Try.underlying4 (by kernel_rfl) laidO (by decide +kernel) rfl hW' rfl rfl rfl hb⟩

theorem wordBack_holds : Rows.WordBackSaid :=
  OpenClaim.holds_of_wide 5 Try.f5 rfl rfl rfl rfl rfl rfl rfl ⟨rfl, rfl, rfl, rfl, rfl⟩ rfl rfl rfl rfl rfl (by kernel_rfl) Try.func5 (by kernel_rfl)
    (of_decide_eq_true (by kernel_rfl)) (by unfold Func.isWrapper; first | (rw [if_pos (by decide +kernel)]; kernel_rfl) | (rw [if_neg (by decide +kernel)]; exact ⟨rfl, rfl⟩))
    (fun os started H enc _ => wordBack_lifted os started H enc)

end Go.Proofs.Ytkffefbljmkdjaa

/-
  PLAIN FACTS on spans' bytes: what was put is read as it was; what is read is put as those bytes.
-/
import Derived.Test.YtcpbikogccdknaaSpanE
namespace Go.Proofs.Ytcpbikogccdknaa
open Go.RowKit

theorem seg {b pre x post : List UInt8} (h : b = pre ++ (x ++ post)) : (b.drop pre.length).take x.length = x := by
  rw [h, List.drop_left, List.take_left]

theorem wordOk8 (l : List UInt8) (p : Nat) (h : p + 8 ≤ l.length) : wordOk l p false 8 = true := by
  simp only [wordOk, Bool.not_false, Bool.true_and, Bool.and_eq_true, decide_eq_true_iff]
  exact ⟨by decide, by omega⟩
theorem wp8_ok (l : List UInt8) (p : Nat) (h : p + 8 ≤ l.length) : wp8 l (p, false) = (p + 8, false) := by
  have e := wordOk8 l p h
  simp only [wp8, wNext, e, if_true, Bool.not_true]
  rfl
theorem wo8_ok (l : List UInt8) (p : Nat) (h : p + 8 ≤ l.length) : wo8 l (p, false) = num ((l.drop p).take 8) := by
  have e := wordOk8 l p h
  simp only [wo8, wOut, e, if_true]
  rfl
theorem wp8_bad (l : List UInt8) (x : Nat × Bool) (h : x.2 = true) : (wp8 l x).2 = true := by
  simp [wp8, wordOk, h]
theorem wp8_no (l : List UInt8) (x : Nat × Bool) (h : (wp8 l x).2 = false) : x.2 = false ∧ x.1 + 8 ≤ l.length := by
  simp only [wp8, Bool.not_eq_false', wordOk, Bool.and_eq_true, decide_eq_true_iff] at h
  obtain ⟨⟨h1, _⟩, h2⟩ := h
  exact ⟨by simpa using h1, by omega⟩

theorem rd_yes (most : Int) (l : List UInt8) (p : Nat) (h1 : p + 34 + tsize l (p + 32) ≤ l.length) (h2 : (tsize l (p + 32) : Int) ≤ most) :
    rdNext most l (p, false) = (p + 34 + tsize l (p + 32), false) ∧
    rdSpan most l (p, false) = ⟨num ((l.drop p).take 8), num ((l.drop (p + 8)).take 8), wrap64 (num ((l.drop (p + 16)).take 8)), wrap64 (num ((l.drop (p + 24)).take 8)), (l.drop (p + 34)).take (tsize l (p + 32))⟩ := by
  have e1 := wp8_ok l p (by omega)
  have e2 := wp8_ok l (p + 8) (by omega)
  have e3 := wp8_ok l (p + 8 + 8) (by omega)
  have e4 := wp8_ok l (p + 8 + 8 + 8) (by omega)
  have ht : textOk l (p + 8 + 8 + 8 + 8) false most = true := by
    simp only [textOk, Bool.not_false, Bool.true_and, Bool.and_eq_true, decide_eq_true_iff]
    exact ⟨⟨by omega, by have : p + 8 + 8 + 8 + 8 = p + 32 := by omega
                         rw [this]; omega⟩, h2⟩
  constructor
  · simp only [rdNext, e1, e2, e3, e4, tNext, ht, if_true, Bool.not_true]
  · simp only [rdSpan, e1, e2, e3, e4, tOut, ht, if_true, wo8_ok l p (by omega), wo8_ok l (p + 8) (by omega), wo8_ok l (p + 8 + 8) (by omega), wo8_ok l (p + 8 + 8 + 8) (by omega)]

theorem rd_no (most : Int) (l : List UInt8) (p : Nat) (h : (rdNext most l (p, false)).2 = false) : p + 34 + tsize l (p + 32) ≤ l.length ∧ (tsize l (p + 32) : Int) ≤ most := by
  simp only [rdNext, Bool.not_eq_false', textOk, Bool.and_eq_true, decide_eq_true_iff] at h
  obtain ⟨⟨⟨hb, h2⟩, h3⟩, h4⟩ := h
  have hb4 : (wp8 l (wp8 l (wp8 l (wp8 l (p, false))))).2 = false := by simpa using hb
  obtain ⟨b3, k3⟩ := wp8_no _ _ hb4
  obtain ⟨b2, k2⟩ := wp8_no _ _ b3
  obtain ⟨b1, k1⟩ := wp8_no _ _ b2
  obtain ⟨b0, k0⟩ := wp8_no _ _ b1
  have e1 := wp8_ok l p k0
  rw [e1] at k1 k2 k3 h2 h3 h4
  have e2 := wp8_ok l (p + 8) k1
  rw [e2] at k2 k3 h2 h3 h4
  have e3 := wp8_ok l (p + 8 + 8) k2
  rw [e3] at k3 h2 h3 h4
  have e4 := wp8_ok l (p + 8 + 8 + 8) k3
  rw [e4] at h2 h3 h4
  simp only at h2 h3 h4
  have : p + 8 + 8 + 8 + 8 = p + 32 := by omega
  rw [this] at h2 h3 h4
  exact ⟨by omega, h4⟩

theorem num_bet8 (n : Int) (h0 : 0 ≤ n) (h1 : n ≤ 18446744073709551615) : ((num (bet n.toNat 8) : Nat) : Int) = n := by
  rw [num_bet 8 n.toNat (by have : (256 : Nat) ^ 8 = 18446744073709551616 := by decide
                            omega)]
  omega

/-- one span, read where it stands -/
theorem rd_enc (most : Int) (hm : 64 ≤ most) (pre post : List UInt8) (s : Sn) (ho : s.ok) (h : mayB s = true) :
    rdNext most (pre ++ (encOne s ++ post)) (pre.length, false) = (pre.length + (encOne s).length, false) ∧ rdSpan most (pre ++ (encOne s ++ post)) (pre.length, false) = s := by
  obtain ⟨m1, m2, m3, m4⟩ := may_bounds h
  obtain ⟨o1, o2, o3, o4, o5, o6, o7, o8⟩ := ho
  obtain ⟨b, hb⟩ : ∃ b, b = pre ++ (encOne s ++ post) := ⟨_, rfl⟩
  have hlen : b.length = pre.length + (34 + s.data.length) + post.length := by rw [hb]; simp [encOne_length]; omega
  have s1 : (b.drop pre.length).take 8 = bet s.tr.toNat 8 := by
    have := seg (b := b) (pre := pre) (x := bet s.tr.toNat 8) (post := bet s.id.toNat 8 ++ (bet s.st.toNat 8 ++ (bet s.en.toNat 8 ++ (bet s.data.length 2 ++ s.data))) ++ post) (by rw [hb]; simp [encOne])
    rwa [bet_length] at this
  have s2 : (b.drop (pre.length + 8)).take 8 = bet s.id.toNat 8 := by
    have := seg (b := b) (pre := pre ++ bet s.tr.toNat 8) (x := bet s.id.toNat 8) (post := (bet s.st.toNat 8 ++ (bet s.en.toNat 8 ++ (bet s.data.length 2 ++ s.data))) ++ post) (by rw [hb]; simp [encOne])
    rwa [bet_length, List.length_append, bet_length] at this
  have s3 : (b.drop (pre.length + 16)).take 8 = bet s.st.toNat 8 := by
    have := seg (b := b) (pre := pre ++ (bet s.tr.toNat 8 ++ bet s.id.toNat 8)) (x := bet s.st.toNat 8) (post := (bet s.en.toNat 8 ++ (bet s.data.length 2 ++ s.data)) ++ post) (by rw [hb]; simp [encOne])
    rwa [bet_length, List.length_append, List.length_append, bet_length, bet_length] at this
  have s4 : (b.drop (pre.length + 24)).take 8 = bet s.en.toNat 8 := by
    have := seg (b := b) (pre := pre ++ (bet s.tr.toNat 8 ++ (bet s.id.toNat 8 ++ bet s.st.toNat 8))) (x := bet s.en.toNat 8) (post := (bet s.data.length 2 ++ s.data) ++ post) (by rw [hb]; simp [encOne])
    rwa [bet_length, List.length_append, List.length_append, List.length_append, bet_length, bet_length, bet_length] at this
  have s5 : (b.drop (pre.length + 32)).take 2 = bet s.data.length 2 := by
    have := seg (b := b) (pre := pre ++ (bet s.tr.toNat 8 ++ (bet s.id.toNat 8 ++ (bet s.st.toNat 8 ++ bet s.en.toNat 8)))) (x := bet s.data.length 2) (post := s.data ++ post) (by rw [hb]; simp [encOne])
    rwa [bet_length, List.length_append, List.length_append, List.length_append, List.length_append, bet_length, bet_length, bet_length, bet_length] at this
  have s6 : (b.drop (pre.length + 34)).take s.data.length = s.data := by
    have := seg (b := b) (pre := pre ++ (bet s.tr.toNat 8 ++ (bet s.id.toNat 8 ++ (bet s.st.toNat 8 ++ (bet s.en.toNat 8 ++ bet s.data.length 2))))) (x := s.data) (post := post) (by rw [hb]; simp [encOne])
    rwa [List.length_append, List.length_append, List.length_append, List.length_append, List.length_append, bet_length, bet_length, bet_length, bet_length, bet_length] at this
  have ht : tsize b (pre.length + 32) = s.data.length := by
    rw [tsize, s5, num_bet 2 _ (by show _ < 65536; omega)]
  obtain ⟨r1, r2⟩ := rd_yes most b pre.length (by rw [ht]; omega) (by rw [ht]; omega)
  rw [← hb, r1, r2, ht]
  refine ⟨by rw [encOne_length, Nat.add_assoc], ?_⟩
  rw [s1, s2, s3, s4, s6, num_bet8 _ o1 o2, num_bet8 _ o3 o4, num_bet8 _ m1 (by omega), num_bet8 _ (by omega) (by omega), IntWalk.wrap64_in _ ⟨by omega, by omega⟩, IntWalk.wrap64_in _ ⟨by omega, by omega⟩]

theorem go_enc (most : Int) (hm : 64 ≤ most) : ∀ (l : List Sn) (pre : List UInt8), (∀ s ∈ l, s.ok) → l.all mayB = true → goS most (pre ++ l.flatMap encOne) l.length pre.length = .ok l
  | [], pre, _, _ => by simp [goS]
  | s :: l, pre, ho, h => by
    simp only [List.all_cons, Bool.and_eq_true] at h
    have hb : pre ++ (s :: l).flatMap encOne = pre ++ (encOne s ++ l.flatMap encOne) := by rw [List.flatMap_cons]
    obtain ⟨r1, r2⟩ := rd_enc most hm pre (l.flatMap encOne) s (ho s (List.mem_cons_self ..)) h.1
    have ih := go_enc most hm l (pre ++ encOne s) (fun x hx => ho x (List.mem_cons_of_mem _ hx)) h.2
    rw [List.append_assoc, List.length_append] at ih
    rw [hb, List.length_cons, goS, r1, r2]
    simp only [Bool.false_eq_true, if_false, h.1]
    rw [ih]
    simp

/-- what was put is read as it was -/
theorem get_enc (most : Int) (hm : 64 ≤ most) (l : List Sn) (hl : l.length ≤ 65535) (ho : ∀ s ∈ l, s.ok) (h : l.all mayB = true) : getS most (encS l) = .ok l := by
  have h1 : wordOk (encS l) 0 false 2 = true := by
    have : (encS l).length = 2 + (l.flatMap encOne).length := by simp [encS, bet_length]
    simp only [wordOk, Bool.not_false, Bool.true_and, Bool.and_eq_true, decide_eq_true_iff]
    exact ⟨by decide, by omega⟩
  have h2 : wOut (encS l) 0 false 2 = l.length := by
    have h3 : ((encS l).drop 0).take (2 : Int).toNat = bet l.length 2 := by
      have := seg (b := encS l) (pre := []) (x := bet l.length 2) (post := l.flatMap encOne) rfl
      rwa [bet_length] at this
    rw [wOut, if_pos h1, h3, num_bet 2 _ (by show _ < 65536; omega)]
  have h3 : wNext (encS l) 0 false 2 = 2 := by
    rw [wNext, if_pos h1]
    rfl
  have := go_enc most hm l (bet l.length 2) ho h
  rw [bet_length] at this
  rw [getS, if_pos h1, h2, h3]
  exact this

theorem wrap_nat {n : Nat} (hn : n < 18446744073709551616) (h0 : 0 ≤ wrap64 (n : Int)) : (wrap64 (n : Int)).toNat = n := by
  unfold wrap64 at h0 ⊢
  omega

/-- the bytes of a span that was read -/
theorem enc_rd (most : Int) (b : List UInt8) (p : Nat) (h : (rdNext most b (p, false)).2 = false) (hm : mayB (rdSpan most b (p, false)) = true) :
    (rdNext most b (p, false)).1 ≤ b.length ∧ b.take (rdNext most b (p, false)).1 = b.take p ++ encOne (rdSpan most b (p, false)) := by
  obtain ⟨k1, k2⟩ := rd_no most b p h
  obtain ⟨r1, r2⟩ := rd_yes most b p k1 k2
  obtain ⟨m1, m2, m3, m4⟩ := may_bounds hm
  rw [r2] at m1 m2 m3 m4
  simp only at m1 m2 m3 m4
  rw [r1, r2]
  refine ⟨k1, ?_⟩
  obtain ⟨t, ht⟩ : ∃ t, t = tsize b (p + 32) := ⟨_, rfl⟩
  rw [← ht] at k1 ⊢
  have m5 := Int.le_trans m1 m2
  clear m2 m3 m4 r1 r2 hm h
  have l0 : p + 8 ≤ b.length := by clear m1 m5; omega
  have l08 : p + 8 + 8 ≤ b.length := by clear m1 m5; omega
  have l16 : p + 16 + 8 ≤ b.length := by clear m1 m5; omega
  have l24 : p + 24 + 8 ≤ b.length := by clear m1 m5; omega
  have l8 : ∀ q, q + 8 ≤ b.length → ((b.drop q).take 8).length = 8 := fun q hq => by clear m1 m5; simp; omega
  have b8 : ∀ q, q + 8 ≤ b.length → bet (num ((b.drop q).take 8)) 8 = (b.drop q).take 8 := fun q hq => by
    have := bet_num ((b.drop q).take 8)
    rwa [l8 q hq] at this
  have n8 : ∀ q, q + 8 ≤ b.length → num ((b.drop q).take 8) < 18446744073709551616 := fun q hq => num_lt8 _ (by rw [l8 q hq]; exact Nat.le_refl 8)
  have hdl : ((b.drop (p + 34)).take t).length = t := by clear m1 m5; simp; omega
  have b2 : bet t 2 = (b.drop (p + 32)).take 2 := by
    have h2 : ((b.drop (p + 32)).take 2).length = 2 := by clear m1 m5; simp; omega
    have := bet_num ((b.drop (p + 32)).take 2)
    rw [h2] at this
    rw [ht]
    exact this
  simp only [encOne]
  rw [wrap_nat (n8 _ l16) m1, wrap_nat (n8 (p + 24) l24) m5, hdl, b2, Int.toNat_natCast, Int.toNat_natCast, b8 p l0, b8 (p + 8) l08, b8 (p + 16) l16, b8 (p + 24) l24]
  clear m1 m5
  have cut : ∀ q n m : Nat, (b.drop q).take n ++ (b.drop (q + n)).take m = (b.drop q).take (n + m) := fun q n m => by
    rw [List.take_add, List.drop_drop]
  rw [cut (p + 32) 2 t, cut (p + 24) 8 _, cut (p + 16) 8 _, cut (p + 8) 8 _, cut p 8 _]
  rw [← List.take_add]
  congr 1
  omega

theorem enc_go (most : Int) (b : List UInt8) : ∀ (n p : Nat) (y : List Sn), p ≤ b.length → goS most b n p = .ok y → y.length = n ∧ y.all mayB = true ∧ b = b.take p ++ y.flatMap encOne
  | 0, p, y, hp, h => by
    rw [goS] at h
    split at h
    · cases h
    · injection h with h
      subst h
      refine ⟨rfl, rfl, ?_⟩
      rw [List.take_of_length_le (by omega)]
      simp
  | n + 1, p, y, hp, h => by
    rw [goS] at h
    split at h
    · cases h
    · rename_i h1
      split at h
      · cases h
      · rename_i h2
        have e1 : (rdNext most b (p, false)).2 = false := by simpa using h1
        have e2 : mayB (rdSpan most b (p, false)) = true := by simpa using h2
        cases hg : goS most b n (rdNext most b (p, false)).1 with
        | error e => rw [hg] at h; cases h
        | ok r =>
          rw [hg] at h
          injection h with h
          subst h
          obtain ⟨k1, k2⟩ := enc_rd most b p e1 e2
          obtain ⟨j1, j2, j3⟩ := enc_go most b n _ r k1 hg
          refine ⟨by simp [j1], by simp [j2, e2], ?_⟩
          rw [List.flatMap_cons, ← List.append_assoc, ← k2]
          exact j3

/-- what is read is put as those bytes -/
theorem enc_get (most : Int) (b : List UInt8) (y : List Sn) (h : getS most b = .ok y) : y.length ≤ 65535 ∧ y.all mayB = true ∧ encS y = b := by
  rw [getS] at h
  split at h
  · rename_i h1
    have h2 : 2 ≤ b.length := by
      simp only [wordOk, Bool.not_false, Bool.true_and, Bool.and_eq_true, decide_eq_true_iff] at h1
      omega
    have h3 : wNext b 0 false 2 = 2 := by
      rw [wNext, if_pos h1]
      rfl
    have h4 : wOut b 0 false 2 = num (b.take 2) := by
      rw [wOut, if_pos h1]
      rfl
    rw [h3, h4] at h
    obtain ⟨k1, k2, k3⟩ := enc_go most b _ 2 y h2 h
    have hl : (b.take 2).length = 2 := by simp; omega
    have hn := num_lt (b.take 2)
    rw [hl] at hn
    have hn' : num (b.take 2) < 65536 := hn
    refine ⟨by omega, k2, ?_⟩
    have hb := bet_num (b.take 2)
    rw [hl] at hb
    rw [encS, k1, hb]
    exact k3.symm
  · cases h

end Go.Proofs.Ytcpbikogccdknaa

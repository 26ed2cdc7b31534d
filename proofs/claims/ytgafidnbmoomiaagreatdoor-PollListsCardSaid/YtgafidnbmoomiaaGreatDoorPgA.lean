/-
  PAGES, as plain lists: a page's bytes, what they are read as step by step, and cutting. No condition but what each theorem says.
  CONTRACTS of page.one, page.isPage, page.Put, and of the document's One and Page. Conditions: what each says.
  CONTRACTS of page.next and page.read. Conditions: what each says.
  CONTRACTS of page.read and page.Get. Conditions: what each says.
  THE HEAD OF LAYER 5's STATEMENTS; few traces.
-/
import Derived.Test.YtgafidnbmoomiaaGreatDoorTrK
import Derived.Test.YtgafidnbmoomiaaGreatDoorSpanD
import Derived.Test.YtgafidnbmoomiaaGreatDoorCrcA
import Derived.Test.YtgafidnbmoomiaaGreatDoorAccF
import Derived.Test.YtgafidnbmoomiaaGreatDoorKee
namespace Go.Proofs.YtgafidnbmoomiaaGreatDoor
open Go.RowKit
set_option maxRecDepth 100000


def pgOne (t : Tn) : List UInt8 := bet t.id.toNat 8 ++ (bet (encS t.sp).length 4 ++ encS t.sp)

theorem pgOne_length (t : Tn) : (pgOne t).length = 12 + (encS t.sp).length := by
  simp [pgOne, bet_length]
  omega

def pgBody (l : List Tn) : List UInt8 := bet l.length 2 ++ l.flatMap pgOne

def pgOf (l : List Tn) : List UInt8 := sealedOf (pgBody l)

theorem pgBody_length (l : List Tn) : (pgBody l).length = 2 + (l.flatMap pgOne).length := by simp [pgBody, bet_length]

theorem pgOf_length (l : List Tn) : (pgOf l).length = 6 + (l.flatMap pgOne).length := by
  rw [pgOf, sealedOf_length, pgBody_length]
  omega

structure ValP (m : List Tn) : Prop where
  is : IsT m
  most : m.length ≤ 64
  id : ∀ t ∈ m, 0 ≤ t.id ∧ t.id ≤ 18446744073709551615
  ok : ∀ t ∈ m, ∀ s ∈ t.sp, s.ok

theorem encS_le {i : Int} {l : List Sn} (h : CanS i l) : (encS l).length ≤ 9802 := by
  have h1 : l.all mayB = true := by
    rw [List.all_eq_true]
    intro s hs
    obtain ⟨k, hk⟩ := List.mem_iff_getElem?.1 hs
    exact (h.one k s hk).2
  have h2 := enc_length l h1
  have h3 := h.hi
  simp only [encS, List.length_append, bet_length]
  omega

theorem ValP.can {m : List Tn} (h : ValP m) {t : Tn} (ht : t ∈ m) : CanS t.id t.sp := by
  obtain ⟨k, hk⟩ := List.mem_iff_getElem?.1 ht
  exact h.is.each k t hk

theorem num_bet2 {n : Nat} (h : n ≤ 65535) : num (bet n 2) = n := num_bet 2 n (by have : (256 : Nat) ^ 2 = 65536 := (by decide); omega)

theorem num_bet4 {n : Nat} (h : n ≤ 4294967295) : num (bet n 4) = n := num_bet 4 n (by have : (256 : Nat) ^ 4 = 4294967296 := (by decide); omega)

theorem num_bet8' {n : Int} (h0 : 0 ≤ n) (h1 : n ≤ 18446744073709551615) : ((num (bet n.toNat 8) : Nat) : Int) = n := by
  rw [num_bet 8 n.toNat (by have : (256 : Nat) ^ 8 = 18446744073709551616 := by decide
                            omega)]
  omega

theorem pg_first {m : List Tn} {b : List UInt8} (hm : m.length ≤ 65535) (hb : pgBody m = b) : 2 ≤ b.length ∧ num (b.take 2) = m.length ∧ b.take 2 = bet m.length 2 := by
  have h : b.take 2 = bet m.length 2 := by
    rw [← hb, pgBody, List.take_append_of_le_length (by simp [bet_length])]
    exact List.take_of_length_le (by simp [bet_length])
  refine ⟨?_, by rw [h, num_bet2 hm], h⟩
  rw [← hb, pgBody_length]
  omega

theorem pg_next {m : List Tn} {b : List UInt8} {i q : Nat} (hv : ValP m) (hb : pgBody m = b) (hq : q = 2 + ((m.take i).flatMap pgOne).length) {t : Tn} (ht : m[i]? = some t) :
    q + 12 + (encS t.sp).length ≤ b.length ∧ ((num ((b.drop q).take 8) : Nat) : Int) = t.id ∧ num ((b.drop (q + 8)).take 4) = (encS t.sp).length ∧ (b.drop (q + 12)).take (encS t.sp).length = encS t.sp := by
  have hi : i < m.length := (List.getElem?_eq_some_iff.1 ht).1
  have hmt : t ∈ m := List.mem_of_getElem? ht
  have hsplit : m = m.take i ++ (t :: m.drop (i + 1)) := by
    have h1 := (List.take_append_drop i m).symm
    rw [List.drop_eq_getElem_cons hi] at h1
    have e : m[i] = t := by
      rw [List.getElem?_eq_getElem hi] at ht
      exact Option.some.inj ht
    rw [e] at h1
    exact h1
  have hd : b.drop q = pgOne t ++ (m.drop (i + 1)).flatMap pgOne := by
    have h1 : b = (bet m.length 2 ++ (m.take i).flatMap pgOne) ++ (pgOne t ++ (m.drop (i + 1)).flatMap pgOne) := by
      rw [← hb, pgBody]
      conv => lhs; rw [hsplit, ← hsplit]
      have : m.flatMap pgOne = (m.take i).flatMap pgOne ++ (pgOne t ++ (m.drop (i + 1)).flatMap pgOne) := by
        conv => lhs; rw [hsplit]
        rw [List.flatMap_append, List.flatMap_cons]
      rw [this, List.append_assoc]
    rw [h1, List.drop_left' (by simp [bet_length, hq])]
  have hlen : (b.drop q).length = 12 + (encS t.sp).length + ((m.drop (i + 1)).flatMap pgOne).length := by
    rw [hd, List.length_append, pgOne_length]
  rw [List.length_drop] at hlen
  have hc := encS_le (hv.can hmt)
  have h8 : (b.drop q).take 8 = bet t.id.toNat 8 := by
    rw [hd, pgOne, List.append_assoc, List.take_left' (by simp [bet_length])]
  have hd8 : b.drop (q + 8) = bet (encS t.sp).length 4 ++ (encS t.sp ++ (m.drop (i + 1)).flatMap pgOne) := by
    rw [← List.drop_drop, hd, pgOne, List.append_assoc, List.drop_left' (by simp [bet_length]), List.append_assoc]
  have hd12 : b.drop (q + 12) = encS t.sp ++ (m.drop (i + 1)).flatMap pgOne := by
    rw [show q + 12 = (q + 8) + 4 by omega, ← List.drop_drop, hd8, List.drop_left' (by simp [bet_length])]
  refine ⟨by omega, ?_, ?_, ?_⟩
  · rw [h8]
    exact num_bet8' (hv.id t hmt).1 (hv.id t hmt).2
  · rw [hd8, List.take_left' (by simp [bet_length]), num_bet4 (by omega)]
  · rw [hd12, List.take_left' rfl]

theorem pg_step {b : List UInt8} {o : List Tn} {q n many : Nat} {sp : List Sn} (h1 : b.take q = bet n 2 ++ o.flatMap pgOne) (hq : q + 12 + many ≤ b.length)
    (hm : num ((b.drop (q + 8)).take 4) = many) (hs : encS sp = (b.drop (q + 12)).take many) :
    b.take (q + 12 + many) = bet n 2 ++ (o ++ [(⟨((num ((b.drop q).take 8) : Nat) : Int), sp⟩ : Tn)]).flatMap pgOne := by
  have hl : (encS sp).length = many := by rw [hs, List.length_take, List.length_drop]; omega
  have e8 : bet (num ((b.drop q).take 8)) 8 = (b.drop q).take 8 := by
    have := bet_num ((b.drop q).take 8)
    rwa [show ((b.drop q).take 8).length = 8 by rw [List.length_take, List.length_drop]; omega] at this
  have e4 : bet (num ((b.drop (q + 8)).take 4)) 4 = (b.drop (q + 8)).take 4 := by
    have := bet_num ((b.drop (q + 8)).take 4)
    rwa [show ((b.drop (q + 8)).take 4).length = 4 by rw [List.length_take, List.length_drop]; omega] at this
  have hone : pgOne (⟨((num ((b.drop q).take 8) : Nat) : Int), sp⟩ : Tn) = (b.drop q).take (12 + many) := by
    simp only [pgOne, Int.toNat_natCast]
    rw [hl, e8, ← hm, e4, hm, hs]
    rw [show 12 + many = 8 + (4 + many) by omega, List.take_add, List.drop_drop, List.take_add, List.drop_drop]
  rw [List.flatMap_append, ← List.append_assoc, ← h1]
  simp only [List.flatMap_cons, List.flatMap_nil, List.append_nil]
  rw [hone, Nat.add_assoc, List.take_add]

theorem pg_end {b : List UInt8} {o : List Tn} {q : Nat} (h1 : b.take q = bet o.length 2 ++ o.flatMap pgOne) (hq : b.length ≤ q) : pgBody o = b := by
  rw [List.take_of_length_le hq] at h1
  exact h1.symm

theorem pg_len {b : List UInt8} {o : List Tn} {q n : Nat} (h1 : b.take q = bet n 2 ++ o.flatMap pgOne) (hq : q ≤ b.length) : q = 2 + (o.flatMap pgOne).length := by
  have := congrArg List.length h1
  rw [List.length_take, List.length_append, bet_length] at this
  omega

def okS (x : List Sn) : Prop := x.length ≤ 65535 ∧ (∀ s ∈ x, s.ok) ∧ x.all mayB = true

theorem ValP.okS {m : List Tn} (h : ValP m) {t : Tn} (ht : t ∈ m) : okS t.sp := by
  have hc := h.can ht
  have h1 := hc.hi
  refine ⟨by omega, h.ok t ht, ?_⟩
  rw [List.all_eq_true]
  intro s hs
  obtain ⟨k, hk⟩ := List.mem_iff_getElem?.1 hs
  exact (hc.one k s hk).2

structure PgAt (b : List UInt8) (n i q : Nat) (o : List Tn) : Prop where
  len : o.length = i
  at_ : b.take q = bet n 2 ++ o.flatMap pgOne
  le : q ≤ b.length
  pre : ∀ m, ValP m → pgBody m = b → m.length = n ∧ m.take i = o

theorem PgAt.pos {b : List UInt8} {n i q : Nat} {o : List Tn} (h : PgAt b n i q o) : q = 2 + (o.flatMap pgOne).length := pg_len h.at_ h.le

theorem PgAt.start {b : List UInt8} (h : 2 ≤ b.length) : PgAt b (num (b.take 2)) 0 2 [] := by
  refine ⟨rfl, ?_, h, fun m hv hb => ⟨((pg_first (by have := hv.most; omega) hb).2.1).symm, by simp⟩⟩
  have := bet_num (b.take 2)
  rw [show (b.take 2).length = 2 by rw [List.length_take]; omega] at this
  rw [this]
  simp

theorem PgAt.next {b : List UInt8} {n i q : Nat} {o : List Tn} (h : PgAt b n i q o) (hi : i < n) {m : List Tn} (hv : ValP m) (hb : pgBody m = b) :
    ∃ t, m[i]? = some t ∧ q + 12 + (encS t.sp).length ≤ b.length ∧ ((num ((b.drop q).take 8) : Nat) : Int) = t.id ∧ num ((b.drop (q + 8)).take 4) = (encS t.sp).length ∧ (b.drop (q + 12)).take (encS t.sp).length = encS t.sp ∧ okS t.sp := by
  obtain ⟨h1, h2⟩ := h.pre m hv hb
  have ht : m[i]? = some (m[i]'(by omega)) := List.getElem?_eq_getElem (by omega)
  obtain ⟨a1, a2, a3, a4⟩ := pg_next (q := q) hv hb (by have := h.pos; rw [h2]; exact this) ht
  exact ⟨_, ht, a1, a2, a3, a4, hv.okS (List.mem_of_getElem? ht)⟩

theorem PgAt.go (hinj : ∀ x y : List Sn, okS x → okS y → encS x = encS y → x = y) {b : List UInt8} {n i q many : Nat} {o : List Tn} {sp : List Sn} (h : PgAt b n i q o) (hi : i < n) (hq : q + 12 + many ≤ b.length)
    (hm : num ((b.drop (q + 8)).take 4) = many) (hs : encS sp = (b.drop (q + 12)).take many) (hok : okS sp) : PgAt b n (i + 1) (q + 12 + many) (o ++ [(⟨((num ((b.drop q).take 8) : Nat) : Int), sp⟩ : Tn)]) := by
  refine ⟨by simp [h.len], pg_step h.at_ hq hm hs, hq, fun m hv hb => ⟨(h.pre m hv hb).1, ?_⟩⟩
  obtain ⟨t, ht, _, a2, a3, a4, a5⟩ := h.next hi hv hb
  have e : sp = t.sp := hinj _ _ hok a5 (by rw [hs, ← hm, a3, a4])
  rw [take_snoc_at ht, (h.pre m hv hb).2, a2, e]

theorem PgAt.none {b : List UInt8} {n i q : Nat} {o : List Tn} (h : PgAt b n i q o) (hi : i < n) (hbad : b.length < q + 12 ∨ b.length < q + 12 + num ((b.drop (q + 8)).take 4) ∨ ∀ sp, okS sp → encS sp ≠ (b.drop (q + 12)).take (num ((b.drop (q + 8)).take 4))) :
    ∀ m, ValP m → pgBody m ≠ b := fun m hv hb => by
  obtain ⟨t, ht, a1, a2, a3, a4, a5⟩ := h.next hi hv hb
  rcases hbad with h1 | h1 | h1
  · omega
  · omega
  · exact h1 t.sp a5 (by rw [a3, a4])

theorem PgAt.done {b : List UInt8} {n q : Nat} {o : List Tn} (h : PgAt b n n q o) : (q = b.length → pgBody o = b) ∧ ∀ m, ValP m → pgBody m = b → m = o ∧ q = b.length := by
  refine ⟨fun hq => pg_end (by rw [h.len]; exact h.at_) (by omega), fun m hv hb => ?_⟩
  obtain ⟨h1, h2⟩ := h.pre m hv hb
  rw [← h1, List.take_length] at h2
  refine ⟨h2, ?_⟩
  have := pgBody_length m
  rw [hb, h2] at this
  rw [this]
  exact h.pos

def cutN (most : Int) (l : List Tn) : Nat → Nat → Nat
  | 0, n => n
  | f + 1, n => if n < l.length ∧ n < 64 ∧ ((pgOf (l.take (n + 1))).length : Int) ≤ most then cutN most l f (n + 1) else n

def cutK (most : Int) (l : List Tn) : Nat := cutN most l 64 1

def cutL (most : Int) : Nat → List Tn → List (List Tn)
  | 0, _ => []
  | _, [] => []
  | f + 1, t :: l => (t :: l).take (cutK most (t :: l)) :: cutL most f ((t :: l).drop (cutK most (t :: l)))

theorem IsT.infix {a b c : List Tn} (h : IsT (a ++ b ++ c)) : IsT b := by
  have key : ∀ (k : Nat) (t : Tn), b[k]? = some t → (a ++ b ++ c)[a.length + k]? = some t := fun k t hk => by
    have hk' := (List.getElem?_eq_some_iff.1 hk).1
    rw [List.append_assoc, List.getElem?_append_right (by omega), show a.length + k - a.length = k by omega, List.getElem?_append_left hk']
    exact hk
  exact ⟨fun k t hk => h.each _ t (key k t hk), fun k t u hk hk' => h.up (a.length + k) t u (key k t hk) (key (k + 1) u hk')⟩

open Go.Maps


theorem CanS.may {i : Int} {l : List Sn} (h : CanS i l) : l.all mayB = true := by
  rw [List.all_eq_true]
  intro s hs
  obtain ⟨k, hk⟩ := List.mem_iff_getElem?.1 hs
  exact (h.one k s hk).2



end Go.Proofs.YtgafidnbmoomiaaGreatDoor

/-
  PAGES, as plain lists: a page's bytes, what they are read as step by step, and cutting. No condition but what each theorem says.
  CONTRACTS of page.one, page.isPage, page.Put, and of the document's One and Page. Conditions: what each says.
  CONTRACTS of page.next and page.read. Conditions: what each says.
  CONTRACTS of page.read and page.Get. Conditions: what each says.
  THE HEAD OF LAYER 5's STATEMENTS; few traces.
-/
import Derived.Test.YtfccfnbmmgfgcaaGreatDoorTrK
import Derived.Test.YtfccfnbmmgfgcaaGreatDoorSpanD
import Derived.Test.YtfccfnbmmgfgcaaGreatDoorCrcA
import Derived.Test.YtfccfnbmmgfgcaaGreatDoorAccF
import Derived.Test.YtfccfnbmmgfgcaaGreatDoorKee
namespace Go.Proofs.YtfccfnbmmgfgcaaGreatDoor
open Go.RowKit
set_option maxRecDepth 100000


def pgOne (t : Tn) : List UInt8 := bet t.id.toNat 8 ++ (bet (encS t.sp).length 4 ++ encS t.sp)
theorem pgOne_length (t : Tn) : (pgOne t).length = 12 + (encS t.sp).length := by
  simp [pgOne, bet_length]
  omega
def pgBody (l : List Tn) : List UInt8 := bet l.length 2 ++ l.flatMap pgOne
def pgOf (l : List Tn) : List UInt8 := sealedOf (pgBody l)
theorem pgBody_length (l : List Tn) : (pgBody l).length = 2 + (l.flatMap pgOne).length := by simp [pgBody, bet_length]
theorem pgOf_length (l : List Tn) : (pgOf l).length = 6 + (l.flatMap pgOne).length := by
  rw [pgOf, sealedOf_length, pgBody_length]
  omega

structure ValP (m : List Tn) : Prop where
  is : IsT m
  most : m.length ≤ 64
  id : ∀ t ∈ m, 0 ≤ t.id ∧ t.id ≤ 18446744073709551615
  ok : ∀ t ∈ m, ∀ s ∈ t.sp, s.ok

theorem encS_le {i : Int} {l : List Sn} (h : CanS i l) : (encS l).length ≤ 9802 := by
  have h1 : l.all mayB = true := by
    rw [List.all_eq_true]
    intro s hs
    obtain ⟨k, hk⟩ := List.mem_iff_getElem?.1 hs
    exact (h.one k s hk).2
  have h2 := enc_length l h1
  have h3 := h.hi
  simp only [encS, List.length_append, bet_length]
  omega
theorem ValP.can {m : List Tn} (h : ValP m) {t : Tn} (ht : t ∈ m) : CanS t.id t.sp := by
  obtain ⟨k, hk⟩ := List.mem_iff_getElem?.1 ht
  exact h.is.each k t hk

theorem num_bet2 {n : Nat} (h : n ≤ 65535) : num (bet n 2) = n := num_bet 2 n (by have : (256 : Nat) ^ 2 = 65536 := (by decide); omega)
theorem num_bet4 {n : Nat} (h : n ≤ 4294967295) : num (bet n 4) = n := num_bet 4 n (by have : (256 : Nat) ^ 4 = 4294967296 := (by decide); omega)
theorem num_bet8' {n : Int} (h0 : 0 ≤ n) (h1 : n ≤ 18446744073709551615) : ((num (bet n.toNat 8) : Nat) : Int) = n := by
  rw [num_bet 8 n.toNat (by have : (256 : Nat) ^ 8 = 18446744073709551616 := by decide
                            omega)]
  omega

theorem pg_first {m : List Tn} {b : List UInt8} (hm : m.length ≤ 65535) (hb : pgBody m = b) : 2 ≤ b.length ∧ num (b.take 2) = m.length ∧ b.take 2 = bet m.length 2 := by
  have h : b.take 2 = bet m.length 2 := by
    rw [← hb, pgBody, List.take_append_of_le_length (by simp [bet_length])]
    exact List.take_of_length_le (by simp [bet_length])
  refine ⟨?_, by rw [h, num_bet2 hm], h⟩
  rw [← hb, pgBody_length]
  omega

theorem pg_next {m : List Tn} {b : List UInt8} {i q : Nat} (hv : ValP m) (hb : pgBody m = b) (hq : q = 2 + ((m.take i).flatMap pgOne).length) {t : Tn} (ht : m[i]? = some t) :
    q + 12 + (encS t.sp).length ≤ b.length ∧ ((num ((b.drop q).take 8) : Nat) : Int) = t.id ∧ num ((b.drop (q + 8)).take 4) = (encS t.sp).length ∧ (b.drop (q + 12)).take (encS t.sp).length = encS t.sp := by
  have hi : i < m.length := (List.getElem?_eq_some_iff.1 ht).1
  have hmt : t ∈ m := List.mem_of_getElem? ht
  have hsplit : m = m.take i ++ (t :: m.drop (i + 1)) := by
    have h1 := (List.take_append_drop i m).symm
    rw [List.drop_eq_getElem_cons hi] at h1
    have e : m[i] = t := by
      rw [List.getElem?_eq_getElem hi] at ht
      exact Option.some.inj ht
    rw [e] at h1
    exact h1
  have hd : b.drop q = pgOne t ++ (m.drop (i + 1)).flatMap pgOne := by
    have h1 : b = (bet m.length 2 ++ (m.take i).flatMap pgOne) ++ (pgOne t ++ (m.drop (i + 1)).flatMap pgOne) := by
      rw [← hb, pgBody]
      conv => lhs; rw [hsplit, ← hsplit]
      have : m.flatMap pgOne = (m.take i).flatMap pgOne ++ (pgOne t ++ (m.drop (i + 1)).flatMap pgOne) := by
        conv => lhs; rw [hsplit]
        rw [List.flatMap_append, List.flatMap_cons]
      rw [this, List.append_assoc]
    rw [h1, List.drop_left' (by simp [bet_length, hq])]
  have hlen : (b.drop q).length = 12 + (encS t.sp).length + ((m.drop (i + 1)).flatMap pgOne).length := by
    rw [hd, List.length_append, pgOne_length]
  rw [List.length_drop] at hlen
  have hc := encS_le (hv.can hmt)
  have h8 : (b.drop q).take 8 = bet t.id.toNat 8 := by
    rw [hd, pgOne, List.append_assoc, List.take_left' (by simp [bet_length])]
  have hd8 : b.drop (q + 8) = bet (encS t.sp).length 4 ++ (encS t.sp ++ (m.drop (i + 1)).flatMap pgOne) := by
    rw [← List.drop_drop, hd, pgOne, List.append_assoc, List.drop_left' (by simp [bet_length]), List.append_assoc]
  have hd12 : b.drop (q + 12) = encS t.sp ++ (m.drop (i + 1)).flatMap pgOne := by
    rw [show q + 12 = (q + 8) + 4 by omega, ← List.drop_drop, hd8, List.drop_left' (by simp [bet_length])]
  refine ⟨by omega, ?_, ?_, ?_⟩
  · rw [h8]
    exact num_bet8' (hv.id t hmt).1 (hv.id t hmt).2
  · rw [hd8, List.take_left' (by simp [bet_length]), num_bet4 (by omega)]
  · rw [hd12, List.take_left' rfl]

theorem pg_step {b : List UInt8} {o : List Tn} {q n many : Nat} {sp : List Sn} (h1 : b.take q = bet n 2 ++ o.flatMap pgOne) (hq : q + 12 + many ≤ b.length)
    (hm : num ((b.drop (q + 8)).take 4) = many) (hs : encS sp = (b.drop (q + 12)).take many) :
    b.take (q + 12 + many) = bet n 2 ++ (o ++ [(⟨((num ((b.drop q).take 8) : Nat) : Int), sp⟩ : Tn)]).flatMap pgOne := by
  have hl : (encS sp).length = many := by rw [hs, List.length_take, List.length_drop]; omega
  have e8 : bet (num ((b.drop q).take 8)) 8 = (b.drop q).take 8 := by
    have := bet_num ((b.drop q).take 8)
    rwa [show ((b.drop q).take 8).length = 8 by rw [List.length_take, List.length_drop]; omega] at this
  have e4 : bet (num ((b.drop (q + 8)).take 4)) 4 = (b.drop (q + 8)).take 4 := by
    have := bet_num ((b.drop (q + 8)).take 4)
    rwa [show ((b.drop (q + 8)).take 4).length = 4 by rw [List.length_take, List.length_drop]; omega] at this
  have hone : pgOne (⟨((num ((b.drop q).take 8) : Nat) : Int), sp⟩ : Tn) = (b.drop q).take (12 + many) := by
    simp only [pgOne, Int.toNat_natCast]
    rw [hl, e8, ← hm, e4, hm, hs]
    rw [show 12 + many = 8 + (4 + many) by omega, List.take_add, List.drop_drop, List.take_add, List.drop_drop]
  rw [List.flatMap_append, ← List.append_assoc, ← h1]
  simp only [List.flatMap_cons, List.flatMap_nil, List.append_nil]
  rw [hone, Nat.add_assoc, List.take_add]
theorem pg_end {b : List UInt8} {o : List Tn} {q : Nat} (h1 : b.take q = bet o.length 2 ++ o.flatMap pgOne) (hq : b.length ≤ q) : pgBody o = b := by
  rw [List.take_of_length_le hq] at h1
  exact h1.symm
theorem pg_len {b : List UInt8} {o : List Tn} {q n : Nat} (h1 : b.take q = bet n 2 ++ o.flatMap pgOne) (hq : q ≤ b.length) : q = 2 + (o.flatMap pgOne).length := by
  have := congrArg List.length h1
  rw [List.length_take, List.length_append, bet_length] at this
  omega

def okS (x : List Sn) : Prop := x.length ≤ 65535 ∧ (∀ s ∈ x, s.ok) ∧ x.all mayB = true
theorem ValP.okS {m : List Tn} (h : ValP m) {t : Tn} (ht : t ∈ m) : okS t.sp := by
  have hc := h.can ht
  have h1 := hc.hi
  refine ⟨by omega, h.ok t ht, ?_⟩
  rw [List.all_eq_true]
  intro s hs
  obtain ⟨k, hk⟩ := List.mem_iff_getElem?.1 hs
  exact (hc.one k s hk).2
structure PgAt (b : List UInt8) (n i q : Nat) (o : List Tn) : Prop where
  len : o.length = i
  at_ : b.take q = bet n 2 ++ o.flatMap pgOne
  le : q ≤ b.length
  pre : ∀ m, ValP m → pgBody m = b → m.length = n ∧ m.take i = o
theorem PgAt.pos {b : List UInt8} {n i q : Nat} {o : List Tn} (h : PgAt b n i q o) : q = 2 + (o.flatMap pgOne).length := pg_len h.at_ h.le
theorem PgAt.start {b : List UInt8} (h : 2 ≤ b.length) : PgAt b (num (b.take 2)) 0 2 [] := by
  refine ⟨rfl, ?_, h, fun m hv hb => ⟨((pg_first (by have := hv.most; omega) hb).2.1).symm, by simp⟩⟩
  have := bet_num (b.take 2)
  rw [show (b.take 2).length = 2 by rw [List.length_take]; omega] at this
  rw [this]
  simp
theorem PgAt.next {b : List UInt8} {n i q : Nat} {o : List Tn} (h : PgAt b n i q o) (hi : i < n) {m : List Tn} (hv : ValP m) (hb : pgBody m = b) :
    ∃ t, m[i]? = some t ∧ q + 12 + (encS t.sp).length ≤ b.length ∧ ((num ((b.drop q).take 8) : Nat) : Int) = t.id ∧ num ((b.drop (q + 8)).take 4) = (encS t.sp).length ∧ (b.drop (q + 12)).take (encS t.sp).length = encS t.sp ∧ okS t.sp := by
  obtain ⟨h1, h2⟩ := h.pre m hv hb
  have ht : m[i]? = some (m[i]'(by omega)) := List.getElem?_eq_getElem (by omega)
  obtain ⟨a1, a2, a3, a4⟩ := pg_next (q := q) hv hb (by have := h.pos; rw [h2]; exact this) ht
  exact ⟨_, ht, a1, a2, a3, a4, hv.okS (List.mem_of_getElem? ht)⟩
theorem PgAt.go (hinj : ∀ x y : List Sn, okS x → okS y → encS x = encS y → x = y) {b : List UInt8} {n i q many : Nat} {o : List Tn} {sp : List Sn} (h : PgAt b n i q o) (hi : i < n) (hq : q + 12 + many ≤ b.length)
    (hm : num ((b.drop (q + 8)).take 4) = many) (hs : encS sp = (b.drop (q + 12)).take many) (hok : okS sp) : PgAt b n (i + 1) (q + 12 + many) (o ++ [(⟨((num ((b.drop q).take 8) : Nat) : Int), sp⟩ : Tn)]) := by
  refine ⟨by simp [h.len], pg_step h.at_ hq hm hs, hq, fun m hv hb => ⟨(h.pre m hv hb).1, ?_⟩⟩
  obtain ⟨t, ht, _, a2, a3, a4, a5⟩ := h.next hi hv hb
  have e : sp = t.sp := hinj _ _ hok a5 (by rw [hs, ← hm, a3, a4])
  rw [take_snoc_at ht, (h.pre m hv hb).2, a2, e]
theorem PgAt.none {b : List UInt8} {n i q : Nat} {o : List Tn} (h : PgAt b n i q o) (hi : i < n) (hbad : b.length < q + 12 ∨ b.length < q + 12 + num ((b.drop (q + 8)).take 4) ∨ ∀ sp, okS sp → encS sp ≠ (b.drop (q + 12)).take (num ((b.drop (q + 8)).take 4))) :
    ∀ m, ValP m → pgBody m ≠ b := fun m hv hb => by
  obtain ⟨t, ht, a1, a2, a3, a4, a5⟩ := h.next hi hv hb
  rcases hbad with h1 | h1 | h1
  · omega
  · omega
  · exact h1 t.sp a5 (by rw [a3, a4])
theorem PgAt.done {b : List UInt8} {n q : Nat} {o : List Tn} (h : PgAt b n n q o) : (q = b.length → pgBody o = b) ∧ ∀ m, ValP m → pgBody m = b → m = o ∧ q = b.length := by
  refine ⟨fun hq => pg_end (by rw [h.len]; exact h.at_) (by omega), fun m hv hb => ?_⟩
  obtain ⟨h1, h2⟩ := h.pre m hv hb
  rw [← h1, List.take_length] at h2
  refine ⟨h2, ?_⟩
  have := pgBody_length m
  rw [hb, h2] at this
  rw [this]
  exact h.pos

def cutN (most : Int) (l : List Tn) : Nat → Nat → Nat
  | 0, n => n
  | f + 1, n => if n < l.length ∧ n < 64 ∧ ((pgOf (l.take (n + 1))).length : Int) ≤ most then cutN most l f (n + 1) else n
theorem cutN_ge (most : Int) (l : List Tn) : ∀ f n, n ≤ cutN most l f n
  | 0, n => Nat.le_refl _
  | f + 1, n => by
    rw [cutN]
    split
    · exact Nat.le_trans (Nat.le_succ _) (cutN_ge most l f (n + 1))
    · exact Nat.le_refl _
theorem cutN_le (most : Int) (l : List Tn) : ∀ f n, n ≤ l.length → n ≤ 64 → cutN most l f n ≤ l.length ∧ cutN most l f n ≤ 64
  | 0, n, h, h' => ⟨h, h'⟩
  | f + 1, n, h, h' => by
    rw [cutN]
    split
    · rename_i hc
      exact cutN_le most l f (n + 1) hc.1 hc.2.1
    · exact ⟨h, h'⟩
theorem cutN_fits (most : Int) (l : List Tn) : ∀ f n, cutN most l f n = n ∨ ((pgOf (l.take (cutN most l f n))).length : Int) ≤ most
  | 0, n => .inl rfl
  | f + 1, n => by
    rw [cutN]
    split
    · rename_i hc
      rcases cutN_fits most l f (n + 1) with h | h
      · rw [h]
        exact .inr hc.2.2
      · exact .inr h
    · exact .inl rfl
def cutK (most : Int) (l : List Tn) : Nat := cutN most l 64 1
def cutL (most : Int) : Nat → List Tn → List (List Tn)
  | 0, _ => []
  | _, [] => []
  | f + 1, t :: l => (t :: l).take (cutK most (t :: l)) :: cutL most f ((t :: l).drop (cutK most (t :: l)))
theorem cutK_pos (most : Int) (l : List Tn) : 1 ≤ cutK most l := cutN_ge most l 64 1
theorem cutL_flat (most : Int) : ∀ (f : Nat) (l : List Tn), l.length ≤ f → (cutL most f l).flatten = l
  | 0, l, h => by
    have : l = [] := List.eq_nil_of_length_eq_zero (by omega)
    subst this
    rfl
  | f + 1, [], _ => rfl
  | f + 1, t :: l, h => by
    have hp := cutK_pos most (t :: l)
    rw [cutL, List.flatten_cons, cutL_flat most f _ (by rw [List.length_drop]; simp only [List.length_cons] at h ⊢; omega), List.take_append_drop]
theorem IsT.infix {a b c : List Tn} (h : IsT (a ++ b ++ c)) : IsT b := by
  have key : ∀ (k : Nat) (t : Tn), b[k]? = some t → (a ++ b ++ c)[a.length + k]? = some t := fun k t hk => by
    have hk' := (List.getElem?_eq_some_iff.1 hk).1
    rw [List.append_assoc, List.getElem?_append_right (by omega), show a.length + k - a.length = k by omega, List.getElem?_append_left hk']
    exact hk
  exact ⟨fun k t hk => h.each _ t (key k t hk), fun k t u hk hk' => h.up (a.length + k) t u (key k t hk) (key (k + 1) u hk')⟩
theorem cutL_parts (most : Int) : ∀ (f : Nat) (l : List Tn), IsT l → ∀ p ∈ cutL most f l, 1 ≤ p.length ∧ p.length ≤ 64 ∧ IsT p ∧ (p.length = 1 ∨ ((pgOf p).length : Int) ≤ most)
  | 0, l, _, p, hp => by cases hp
  | f + 1, [], _, p, hp => by cases hp
  | f + 1, t :: l, h, p, hp => by
    have h1 := cutK_pos most (t :: l)
    obtain ⟨h2, h3⟩ := cutN_le most (t :: l) 64 1 (by simp) (by omega)
    have h2' : cutK most (t :: l) ≤ (t :: l).length := h2
    have h3' : cutK most (t :: l) ≤ 64 := h3
    have hlen : ((t :: l).take (cutK most (t :: l))).length = cutK most (t :: l) := by rw [List.length_take]; omega
    rw [cutL] at hp
    rcases List.mem_cons.1 hp with rfl | hp
    · refine ⟨by omega, by omega, ?_, ?_⟩
      · refine IsT.infix (a := []) (c := (t :: l).drop (cutK most (t :: l))) ?_
        rw [List.nil_append, List.take_append_drop]
        exact h
      · rcases cutN_fits most (t :: l) 64 1 with h4 | h4
        · exact .inl (by rw [hlen]; exact h4)
        · exact .inr h4
    · refine cutL_parts most f _ ?_ p hp
      refine IsT.infix (a := (t :: l).take (cutK most (t :: l))) (c := []) ?_
      rw [List.append_nil, List.take_append_drop]
      exact h

open Go.Maps


theorem putN4 (n : Nat) (h : n ≤ 4294967295) : putOk 4 (n : Int) = true := by
  have h2 : (n : Int).toNat < 256 ^ (4 : Int).toNat := by
    show (n : Int).toNat < 4294967296
    omega
  simp only [putOk, Bool.and_eq_true, decide_eq_true_iff]
  exact ⟨by decide, h2⟩
theorem CanS.may {i : Int} {l : List Sn} (h : CanS i l) : l.all mayB = true := by
  rw [List.all_eq_true]
  intro s hs
  obtain ⟨k, hk⟩ := List.mem_iff_getElem?.1 hs
  exact (h.one k s hk).2

set_option maxRecDepth 100000 in
set_option maxHeartbeats 1600000 in
theorem pone_any (v : Value) (t : Tn) (w : World) (h : TV w v t) (hc : CanS t.id t.sp) :
    Calls Tryz.prog 95 #[v] w fun e w' => ∃ x, e = .returned x ∧ Own w' w.heap.size 5 x (pgOne t) ∧ Below w.heap.size w w' := by
  obtain ⟨⟨i0, i1⟩, d, rfl, hd⟩ := h
  have hle := encS_le hc
  have hhi := hc.hi
  have hmay := Lib.hid hc.may
  have P1 := Lib.hid (putOk8 t.id i1)
  have P2 := Lib.hid (putN4 (encS t.sp).length (by omega))
  have hA := Blk.new w 43 #[.int .u64 t.id, d]
  have hb : Below w.heap.size w (w.alloc (.cells #[.int .u64 t.id, d] 43)) := (Below.refl _ _).alloc (Nat.le_refl _) _
  have hd1 := hd.alloc (.cells #[.int .u64 t.id, d] 43)
  have HA := Lib.hid hA
  clear hA hc hd
  go_enter Tryz.func95, Tryz.ntmps95
  go_wp2_with fail
  refine (sput_any d t.sp _ hd1 (by omega)).mono ?_
  rintro e w1 ⟨x1, er, rfl, hP, hb1⟩
  obtain ⟨rfl, hown1⟩ := hP.yes hmay.out
  have hB1 := hb.trans (hb1.mono hb.size)
  have c0 := (HA.out.below hb1 HA.out.lt).cell 0
  simp at c0
  clear hP
  go_wp2_with fail
  refine (put_ok [] _ _ _ _ i0 P1.out (by simp) (Bs.nil _)).mono ?_
  rintro e w2 ⟨v2, rfl, hown2, hb2⟩
  have hB2 := hB1.trans (hb2.mono hB1.size)
  have hown12 := hown1.below hb2
  obtain ⟨A1, k1, hv1, _⟩ := hown1.form
  subst hv1
  clear hown1 c0
  go_wp2_with fail
  refine (put_ok _ _ _ _ _ (by omega) P2.out (by simp [bet_length]) hown2.bs).mono ?_
  rintro e w3 ⟨v3, rfl, hown3, hb3⟩
  have hB3 := hB2.trans (hb3.mono hB2.size)
  have hown13 := hown12.below hb3
  have ho3 : Own w3 w.heap.size 5 v3 (bet t.id.toNat 8 ++ bet (encS t.sp).length 4) := by
    have := hown3.lower hB2.size
    simpa using this
  clear hown3 hown12
  go_wp2_with (at_builtin; refine wpList_append_v _ byteT rfl _ _ rfl w.heap.size _ _ rfl ho3 _ _ rfl hown13.bs ?c1 hB3.size ?_)
  case c1 => simp only [List.length_append, bet_length]; omega
  intro v4 w4 hown4 hg4 _
  have hB4 := hB3.grown hg4 hB3.size ho3.ge
  go_wp2_with fail
  go_ret
  refine ⟨_, rfl, ?_, hB4⟩
  rw [pgOne, ← List.append_assoc]
  exact hown4

set_option maxRecDepth 100000 in
set_option maxHeartbeats 1600000 in
theorem One_any (v : Value) (t : Tn) (w : World) (h : TV w v t) (hc : CanS t.id t.sp) :
    Calls Tryz.prog 106 #[v] w fun e w' => ∃ x, e = .returned x ∧ Own w' w.heap.size 5 x (pgOne t) ∧ Below w.heap.size w w' := by
  obtain ⟨⟨i0, i1⟩, d, rfl, hd⟩ := h
  have hle := encS_le hc
  have hhi := hc.hi
  have hmay := Lib.hid hc.may
  have hA := Blk.new w 43 #[.int .u64 t.id, d]
  have hb : Below w.heap.size w (w.alloc (.cells #[.int .u64 t.id, d] 43)) := (Below.refl _ _).alloc (Nat.le_refl _) _
  have hd1 := hd.alloc (.cells #[.int .u64 t.id, d] 43)
  have HA := Lib.hid hA
  have I1 : t.id < 18446744073709551616 := by omega
  have HI1 := Lib.hid I1
  clear hA hc hd i1 I1
  go_enter Tryz.func106, Tryz.ntmps106
  go_wp2_with fail
  refine (SBytes_any d t.sp _ hd1 (by omega) hmay.out).mono ?_
  rintro e w1 ⟨x1, rfl, hown1, hb1⟩
  have hB1 := hb.trans (hb1.mono hb.size)
  have c0 := (HA.out.below hb1 HA.out.lt).cell 0
  simp at c0
  go_wp2_with fail
  refine (Bytes_any 8 t.id _ (by omega) (by omega) i0 HI1.out).mono ?_
  rintro e w2 ⟨v2, rfl, hown2, hb2⟩
  have hB2 := hB1.trans (hb2.mono hB1.size)
  have hown12 := hown1.below hb2
  have hsep : x1.ownBlock = none ∨ x1.ownBlock ≠ v2.ownBlock := by
    cases hq : x1.ownBlock with
    | none => exact .inl rfl
    | some q =>
      refine .inr fun e => ?_
      have h1 := (World.ownsRow.lt hown1 q hq).2
      have h2 := hown2.ge q e.symm
      omega
  obtain ⟨A1, k1, hv1, _⟩ := hown1.form
  subst hv1
  clear hown1 c0
  go_wp2_with fail
  refine (Bytes_any 4 _ _ (by omega) (by omega) (by omega) (by omega)).mono ?_
  rintro e w3 ⟨v3, rfl, hown3, hb3⟩
  have hB3 := hB2.trans (hb3.mono hB2.size)
  have hown13 := hown12.below hb3
  have ho2 : Own w3 w.heap.size 5 v2 (bet t.id.toNat 8) := by
    have := (hown2.below hb3).lower hB1.size
    simpa using this
  have ho3 : Own w3 w2.heap.size 5 v3 (bet (encS t.sp).length 4) := by simpa using hown3
  clear hown3 hown12 hown2
  go_wp2_with (at_builtin; refine wpList_append_v _ byteT rfl _ _ rfl w.heap.size _ _ rfl ho2 _ _ rfl ho3.bs ?c0 hB3.size ?_)
  case c0 => simp only [bet_length]; omega
  intro v4 w4 hown4 hg4 hv4
  have hB4 := hB3.grown hg4 hB3.size ho2.ge
  have hown14 := hown13.kept hg4 hsep
  clear hown13 ho2 ho3
  go_wp2_with (at_builtin; refine wpList_append_v _ byteT rfl _ _ rfl w.heap.size _ _ rfl hown4 _ _ rfl hown14.bs ?c1 hB4.size ?_)
  case c1 => simp only [List.length_append, bet_length]; omega
  intro v5 w5 hown5 hg5 hv5
  have hB5 := hB4.grown hg5 hB4.size hown4.ge
  go_wp2_with fail
  go_ret
  refine ⟨_, rfl, ?_, hB5⟩
  rw [pgOne, ← List.append_assoc]
  exact hown5

theorem one_le {l : List Tn} (h : IsT l) (k : Nat) : ((l.take k).flatMap pgOne).length ≤ 9814 * k := by
  induction k with
  | zero => simp
  | succ k ih =>
    by_cases hk : k < l.length
    · have hks : l[k]? = some l[k] := List.getElem?_eq_getElem hk
      have h1 := encS_le (h.each k _ hks)
      have h2 := pgOne_length l[k]
      rw [take_snoc_at hks, List.flatMap_append, List.length_append]
      simp only [List.flatMap_cons, List.flatMap_nil, List.append_nil]
      omega
    · rw [List.take_of_length_le (by omega)]
      rw [List.take_of_length_le (by omega)] at ih
      omega

noncomputable def pgB (l : List Tn) : Bool := decide (l.length ≤ 64) && isB l
theorem pgB_iff {l : List Tn} : pgB l = true ↔ l.length ≤ 64 ∧ IsT l := by
  simp [pgB, isB]

set_option maxHeartbeats 800000 in
theorem isPage_any (v : Value) (l : List Tn) (w : World) (h : Ts w v l) :
    Calls Tryz.prog 59 #[v] w fun e w' => e = .returned (.bool (pgB l)) ∧ Below w.heap.size w w' := by
  have H := Lib.hid h
  obtain ⟨A, c, rfl, hc1, hc2⟩ := h.form
  clear h
  by_cases hl : l.length ≤ 64
  · have e : Hid (pgB l = isB l) := Lib.hid (by simp [pgB, hl])
    go_enter Tryz.func59, Tryz.ntmps59
    go_wp2_with fail
    refine (is_any _ l _ H.out).mono ?_
    rintro e w1 ⟨rfl, hb1⟩
    go_wp2_with fail
    go_ret
    exact ⟨by rw [e.out]; rfl, hb1⟩
  · have e : Hid (pgB l = false) := Lib.hid (by simp [pgB, hl])
    go_enter Tryz.func59, Tryz.ntmps59
    go_wp2_with fail
    go_ret
    exact ⟨by rw [e.out]; rfl, Below.refl _ _⟩

structure PutP (w : World) (base : Nat) (l : List Tn) (x e : Value) : Prop where
  no : pgB l = false → x = .slice none 0 0 ∧ e = code 1
  yes : pgB l = true → e = .nilIface ∧ Own w base 5 x (pgOf l)

set_option maxHeartbeats 3200000 in
theorem pput_any (v : Value) (l : List Tn) (w : World) (h : Ts w v l) :
    Calls Tryz.prog 97 #[v] w fun e w' => ∃ x er, e = .returned (.tuple #[x, er]) ∧ PutP w' w.heap.size l x er ∧ Below w.heap.size w w' := by
  have H := Lib.hid h
  obtain ⟨A, c, rfl, hc1, hc2⟩ := h.form
  clear h
  go_enter Tryz.func97, Tryz.ntmps97
  go_wp2_with fail
  refine (isPage_any _ l _ H.out).mono ?_
  rintro e w1 ⟨rfl, hb1⟩
  cases hp : pgB l with
  | false =>
    have HP := Lib.hid hp
    clear hp
    go_wp2_with fail
    go_ret2
    exact ⟨_, _, rfl, ⟨fun _ => ⟨rfl, rfl⟩, (fun h => by rw [HP.out] at h; cases h)⟩, hb1⟩
  | true =>
    have HP := Lib.hid hp
    obtain ⟨hl64, hIs⟩ := pgB_iff.1 hp
    have HIS := Lib.hid hIs
    have P := Lib.hid (putOk2 l.length (by omega))
    clear hp hIs
    go_wp2_with fail
    refine (put_ok [] _ _ _ _ (by omega) P.out (by simp) (Bs.nil _)).mono ?_
    rintro e w2 ⟨v2, rfl, hown2, hb2⟩
    have hB2 := hb1.trans (hb2.mono hb1.size)
    have ho2 : Own w2 w.heap.size 5 v2 (bet l.length 2) := by simpa using hown2.lower hb1.size
    have HO := Lib.hid ho2
    clear hown2 ho2 hb1 hb2
    go_wp2_with fail
    go_loopw [4, 21] (fun bv i wr => ∃ k : Nat, k ≤ l.length ∧ i = .int .i64 k ∧ Own wr w.heap.size 5 bv (bet l.length 2 ++ (l.take k).flatMap pgOne) ∧ Below w.heap.size w wr) (fun _ i _ => l.length - (intOf i).toNat)
    case atStart => exact ⟨0, Nat.zero_le _, rfl, by simpa using HO.out, hB2⟩
    case round =>
      obtain ⟨k, hk, rfl, hown, hB⟩ := hrel
      by_cases hlt : k < l.length
      · obtain ⟨t, hks⟩ : ∃ t, l[k]? = some t := ⟨_, List.getElem?_eq_getElem hlt⟩
        obtain ⟨g, o, d, rfl, hg, c0, c1, hd, hid⟩ := (H.out.below hB).cells hks
        obtain ⟨A', c', rfl, hd1, hd2⟩ := hd.form
        have HT := Lib.hid (take_snoc_at hks)
        have HC := Lib.hid (HIS.out.each k t hks)
        have hWB : Below w.heap.size w (wr.alloc (.cells #[.int .u64 t.id, .slice A' t.sp.length c'] 43)) := hB.alloc hB.size _
        have hV : TV (wr.alloc (.cells #[.int .u64 t.id, .slice A' t.sp.length c'] 43)) (.agg #[.int .u64 t.id, .slice A' t.sp.length c']) t := ⟨hid, _, rfl, hd.below ((Below.refl _ _).alloc (Nat.le_refl _) _)⟩
        have HV := Lib.hid hV
        have HOw1 := Lib.hid (hown.alloc (.cells #[.int .u64 t.id, .slice A' t.sp.length c'] 43))
        have hle := one_le HIS.out k
        have hle1 : (pgOne t).length ≤ 9814 := by
          have h1 := encS_le HC.out
          have h2 := pgOne_length t
          omega
        clear hks hd hV hown
        go_wp2_with fail
        refine (pone_any _ t _ HV.out HC.out).mono ?_
        rintro e w3 ⟨v3, rfl, hown3, hb3⟩
        have hW3 := hWB.trans (hb3.mono hWB.size)
        have hown := HOw1.out.below hb3
        go_wp2_with (at_builtin; refine wpList_append_v _ byteT rfl _ _ rfl w.heap.size _ _ rfl hown v3 _ rfl hown3.bs ?c1 hW3.size ?_)
        case c1 =>
          rw [List.length_append, bet_length]
          omega
        intro v4 w4 hown4 hg4 _
        go_wp2_with fail
        refine ⟨⟨k + 1, by omega, by go_num, ?_, hW3.grown hg4 hW3.size hown.ge⟩, by simp [intOf]; omega⟩
        rw [HT.out, List.flatMap_append, ← List.append_assoc]
        simpa using hown4
      · have hkk : k = l.length := by omega
        subst hkk
        have hle := one_le HIS.out l.length
        rw [List.take_length] at hown hle
        have HOw := Lib.hid hown
        clear hown hlt
        go_wp2_with fail
        refine (seal_any (pgBody l) _ _ (by rw [pgBody_length]; omega) HOw.out.bs).mono ?_
        rintro e w4 ⟨v4, rfl, hown4, hb4⟩
        go_wp2_with fail
        go_ret2
        exact ⟨_, _, rfl, ⟨(fun h => by rw [HP.out] at h; cases h), fun _ => ⟨rfl, hown4.lower hB.size⟩⟩, hB.trans (hb4.mono hB.size)⟩

set_option maxHeartbeats 3200000 in
theorem Page_any (v : Value) (l : List Tn) (w : World) (h : Ts w v l) (hIs : IsT l) (hl : l.length ≤ 65535) :
    Calls Tryz.prog 71 #[v] w fun e w' => ∃ x, e = .returned x ∧ Own w' w.heap.size 5 x (pgOf l) ∧ Below w.heap.size w w' := by
  have H := Lib.hid h
  obtain ⟨A, c, rfl, hc1, hc2⟩ := h.form
  have HIS := Lib.hid hIs
  clear h hIs
  go_enter Tryz.func71, Tryz.ntmps71
  go_wp2_with fail
  refine (Bytes_any 2 _ _ (by omega) (by omega) (by omega) (by omega)).mono ?_
  rintro e w2 ⟨v2, rfl, hown2, hB2⟩
  have ho2 : Own w2 w.heap.size 5 v2 (bet l.length 2) := by simpa using hown2
  have HO := Lib.hid ho2
  clear hown2 ho2
  go_wp2_with fail
  go_loopw [3, 4] (fun bv i wr => ∃ k : Nat, k ≤ l.length ∧ i = .int .i64 k ∧ Own wr w.heap.size 5 bv (bet l.length 2 ++ (l.take k).flatMap pgOne) ∧ Below w.heap.size w wr) (fun _ i _ => l.length - (intOf i).toNat)
  case atStart => exact ⟨0, Nat.zero_le _, rfl, by simpa using HO.out, hB2⟩
  case round =>
    obtain ⟨k, hk, rfl, hown, hB⟩ := hrel
    by_cases hlt : k < l.length
    · obtain ⟨t, hks⟩ : ∃ t, l[k]? = some t := ⟨_, List.getElem?_eq_getElem hlt⟩
      obtain ⟨g, o, d, rfl, hg, c0, c1, hd, hid⟩ := (H.out.below hB).cells hks
      obtain ⟨A', c', rfl, hd1, hd2⟩ := hd.form
      have HT := Lib.hid (take_snoc_at hks)
      have HC := Lib.hid (HIS.out.each k t hks)
      have hV : TV wr (.agg #[.int .u64 t.id, .slice A' t.sp.length c']) t := ⟨hid, _, rfl, hd⟩
      have HV := Lib.hid hV
      have HOw1 := Lib.hid hown
      have hle := one_le HIS.out k
      have hle1 : (pgOne t).length ≤ 9814 := by
        have h1 := encS_le HC.out
        have h2 := pgOne_length t
        omega
      clear hks hd hV hown
      go_wp2_with fail
      refine (One_any _ t _ HV.out HC.out).mono ?_
      rintro e w3 ⟨v3, rfl, hown3, hb3⟩
      have hW3 := hB.trans (hb3.mono hB.size)
      have hown := HOw1.out.below hb3
      go_wp2_with (at_builtin; refine wpList_append_v _ byteT rfl _ _ rfl w.heap.size _ _ rfl hown v3 _ rfl hown3.bs ?c1 hW3.size ?_)
      case c1 =>
        rw [List.length_append, bet_length]
        omega
      intro v4 w4 hown4 hg4 _
      go_wp2_with fail
      refine ⟨⟨k + 1, by omega, by go_num, ?_, hW3.grown hg4 hW3.size hown.ge⟩, by simp [intOf]; omega⟩
      rw [HT.out, List.flatMap_append, ← List.append_assoc]
      simpa using hown4
    · have hkk : k = l.length := by omega
      subst hkk
      have hle := one_le HIS.out l.length
      rw [List.take_length] at hown hle
      have HOw := Lib.hid hown
      clear hown hlt
      go_wp2_with fail
      refine (Seal_any (pgBody l) _ _ (by rw [pgBody_length]; omega) HOw.out.bs).mono ?_
      rintro e w4 ⟨v4, rfl, hown4, hb4⟩
      go_wp2_with fail
      go_ret
      exact ⟨_, rfl, hown4.lower hB.size, hB.trans (hb4.mono hB.size)⟩

theorem slice_bytes_toK {P : Program} (w : World) {t e : TypeId} (HT : ByteT P t e) (he : P.elem t = e) {A : Option Addr} {c : Nat} {l : List UInt8} (hr : Rd w A (BV l)) (h2 : l.length ≤ c) (h3 : c ≤ 9223372036854775807) (k : IntKind) (hi : Nat) (h1 : hi ≤ l.length) (y : Int) (hy : y = (hi : Int)) :
    ∃ V, (∀ u : World, (Instr.slice t (.slice A l.length c) none (some (.int k y)) none).run P u = .ok V u) ∧ Bs w V (l.take hi) ∧ V.ownBlock = (Value.slice A l.length c).ownBlock := by
  subst hy
  obtain ⟨i, hi', hz, hs, hb⟩ := HT.info
  refine ⟨.slice A hi c, fun u => ?_, ?_, ?_⟩
  · rw [run_slice_h (P := P) (w := u) (t := t) (a := A) (len := l.length) (cap := c) (ht := by rw [he]; exact HT.under) k hi (by omega) (by omega)]
    simp [sizeOf, typeInfo, he, hi', hs, sliced]
    intro _
    cases A <;> simp [Addr.add]
  · have h := Bs.cut (p := 0) (k := hi) hr (by omega) h2 h3 A (fun a ha _ => by rw [ha]; simp [Addr.add])
    simpa using h
  · cases A <;> rfl
theorem slice_bytes_fromK {P : Program} (w : World) {t e : TypeId} (HT : ByteT P t e) (he : P.elem t = e) {A : Option Addr} {c : Nat} {l : List UInt8} (hr : Rd w A (BV l)) (h2 : l.length ≤ c) (h3 : c ≤ 9223372036854775807) (k : IntKind) (lo : Nat) (h1 : lo ≤ l.length) (x : Int) (hx : x = (lo : Int)) :
    ∃ V, (∀ u : World, (Instr.slice t (.slice A l.length c) (some (.int k x)) none none).run P u = .ok V u) ∧ Bs w V (l.drop lo) ∧ V.ownBlock = (Value.slice A l.length c).ownBlock := by
  subst hx
  obtain ⟨i, hi', hz, hs, hb⟩ := HT.info
  refine ⟨.slice (if c = lo then A else A.map (·.add lo)) (l.length - lo) (c - lo), fun u => ?_, ?_, ?_⟩
  · rw [run_slice_l (P := P) (w := u) (t := t) (a := A) (len := l.length) (cap := c) (ht := by rw [he]; exact HT.under) k lo (by omega) (by omega)]
    simp [sizeOf, typeInfo, he, hi', hs, sliced]
  · have h := Bs.cut (k := l.length - lo) (p := lo) hr (by omega) h2 h3 (if c = lo then A else A.map (·.add lo)) ?_
    · rw [List.take_of_length_le (by simp)] at h
      exact h
    · intro a ha hk
      subst ha
      rw [if_neg (by omega)]
      rfl
  · split <;> cases A <;> simp [Value.ownBlock, add_block]

theorem encS_inj (x y : List Sn) (hx : okS x) (hy : okS y) (h : encS x = encS y) : x = y := by
  have h1 := get_enc 65535 (by omega) x hx.1 hx.2.1 hx.2.2
  have h2 := get_enc 65535 (by omega) y hy.1 hy.2.1 hy.2.2
  rw [h, h2] at h1
  injection h1 with h1
  exact h1.symm

def nxMany (b : List UInt8) : Nat := num ((b.drop 8).take 4)
theorem nxMany_lt (b : List UInt8) : nxMany b < 4294967296 := by
  have h := num_lt ((b.drop 8).take 4)
  have hl : ((b.drop 8).take 4).length ≤ 4 := by rw [List.length_take]; omega
  have hp := Nat.pow_le_pow_right (show 0 < 256 by omega) hl
  have : (256 : Nat) ^ 4 = 4294967296 := by decide
  unfold nxMany
  omega
theorem nxId_lt (b : List UInt8) : num (b.take 8) < 18446744073709551616 := by
  have h := num_lt (b.take 8)
  have hl : (b.take 8).length ≤ 8 := by rw [List.length_take]; omega
  have hp := Nat.pow_le_pow_right (show 0 < 256 by omega) hl
  have : (256 : Nat) ^ 8 = 18446744073709551616 := by decide
  omega
structure NextP (w0 w' : World) (base : Nat) (b : List UInt8) (x r : Value) (ok : Bool) : Prop where
  no : ok = false → (x = .agg #[.int .u64 0, .slice none 0 0] ∧ r = .slice none 0 0) ∧ (b.length < 12 ∨ b.length < 12 + nxMany b ∨ ∀ sp, okS sp → encS sp ≠ (b.drop 12).take (nxMany b))
  yes : ok = true → ∃ d sp, x = .agg #[.int .u64 (num (b.take 8)), d] ∧ Acc w' base d sp ∧ 12 + nxMany b ≤ b.length ∧ okS sp ∧ encS sp = (b.drop 12).take (nxMany b) ∧ Bs w0 r (b.drop (12 + nxMany b))

set_option maxHeartbeats 1600000 in
theorem pnext_any (v : Value) (b : List UInt8) (w0 w : World) (hB : Below w0.heap.size w0 w) (h : Bs w0 v b) (hl : b.length ≤ 140737488355328) :
    Calls Tryz.prog 92 #[v] w fun e w' => ∃ x r ok, e = .returned (.tuple #[x, r, .bool ok]) ∧ NextP w0 w' w.heap.size b x r ok ∧ Below w.heap.size w w' := by
  have HB0 := Lib.hid h
  have hv := h.below hB
  have HV := Lib.hid hv
  clear hv
  have hb0 : Below w.heap.size w (w.alloc (.cells #[.int .u64 0, .slice none 0 0] 43)) := (Below.refl _ _).alloc (Nat.le_refl _) _
  have hC0 := Blk.new w 43 #[.int .u64 0, .slice none 0 0]
  have hz0 : (w.alloc (.cells #[.int .u64 0, .slice none 0 0] 43)).heap.size = w.heap.size + 1 := by simp
  by_cases h12 : b.length < 12
  · have hbad : wordOk b (wNext b 0 false 8) (!wordOk b 0 false 8) 4 = false := by
      by_cases h8 : b.length < 8
      · simp [wordOk, wNext, isW]
        omega
      · have : (8 : Int) ≤ b.length := by omega
        simp [wordOk, wNext, isW, this]
        omega
    have HBAD := Lib.hid hbad
    clear hbad h
    go_enter Tryz.func92, Tryz.ntmps92
    go_wp2_with fail
    have hr := read_any v b _ (HV.out.below hb0)
    generalize w.alloc (.cells #[.int .u64 0, .slice none 0 0] 43) = W at *
    refine hr.mono ?_
    clear hr
    rintro e w1 ⟨rfl, hW1, hb1⟩
    rw [hz0] at hW1
    have hC1 := hC0.below hb1 hC0.lt
    have hB1 := hb0.trans (hb1.mono hb0.size)
    go_wp2_with fail
    refine (word_all _ v b _ _ _ _ hW1).mono ?_
    rintro e w2 ⟨rfl, hW2, hg2⟩
    have hC2 := hC1.grown hg2 (by intro e; injection e; omega)
    have hB2 := hB1.grown hg2 hB1.size (by intro k hk; injection hk; omega)
    go_wp2_with fail
    refine (word_all _ v b _ _ _ _ hW2).mono ?_
    rintro e w3 ⟨rfl, hW3, hg3⟩
    have hC3 := hC2.grown hg3 (by intro e; injection e; omega)
    have hB3 := hB2.grown hg3 hB2.size (by intro k hk; injection hk; omega)
    rw [HBAD.out] at hW3
    go_wp2_with fail
    refine (bad_true _ _ _ _ _ hW3).mono ?_
    rintro e w4 ⟨rfl, rfl⟩
    have c0 := hC3.cell 0
    have c1 := hC3.cell 1
    have f0 := hC3.frozen 0
    have f1 := hC3.frozen 1
    simp at c0 c1
    go_wp2_with fail
    obtain ⟨c0, c1, hB5, _⟩ := spot2 hC3 hB3 hB3.size (Nat.le_refl _) (.int .u64 0) (.slice none 0 0)
    generalize ((w3.setCell ⟨w.heap.size, 0, none⟩ (.int .u64 0)).setCell ⟨w.heap.size, 1, none⟩ (.slice none 0 0)) = w5 at *
    refine bodyPost_ret (v := .tuple #[.agg #[.int .u64 0, .slice none 0 0], .slice none 0 0, .bool false]) (by simp [results, Tryz.results92, go_sem, c0, c1]; try rfl) rfl ?_
    exact ⟨_, _, _, rfl, ⟨fun _ => ⟨⟨rfl, rfl⟩, .inl h12⟩, fun h => by cases h⟩, hB5⟩
  · obtain ⟨i, hi⟩ : ∃ i, i = num (b.take 8) := ⟨_, rfl⟩
    obtain ⟨m, hm⟩ : ∃ m, m = nxMany b := ⟨_, rfl⟩
    have hi2 : num ((b.drop 0).take (Int.toNat 8)) = i := by rw [hi]; rfl
    have hm2 : num ((b.drop (0 + Int.toNat 8)).take (Int.toNat 4)) = m := by rw [hm]; rfl
    have hil : i < 18446744073709551616 := by rw [hi]; exact nxId_lt b
    have hml : m < 4294967296 := by rw [hm]; exact nxMany_lt b
    have ok8 : wordOk b 0 false 8 = true := by simp [wordOk, isW]; omega
    have ok4 : wordOk b (0 + Int.toNat 8) false 4 = true := by simp [wordOk, isW]; omega
    have HI := Lib.hid hi
    have HM := Lib.hid hm
    have HI2 := Lib.hid hi2
    have HM2 := Lib.hid hm2
    have HIL := Lib.hid hil
    have OK8 := Lib.hid ok8
    have OK4 := Lib.hid ok4
    clear hi hm hi2 hm2 ok8 ok4 hil
    obtain ⟨A, c, hv, hc1, hc2, hr⟩ := h
    obtain ⟨V1, hs1, hV1, _⟩ := slice_bytes_fromK (P := Tryz.prog) w0 byteT elemB hr hc1 hc2 .i64 12 (by omega) 12 rfl
    obtain ⟨A1, c1, rfl, hd1, hd2, hr1⟩ := hV1
    obtain ⟨q, hq⟩ : ∃ q, q = b.length - 12 := ⟨_, rfl⟩
    have hlr : (b.drop 12).length = q := by rw [List.length_drop, hq]
    rw [hlr] at hs1 hd1
    have hql : q ≤ 140737488355328 := by omega
    have hq1 : (b.length : Int) - ((0 + Int.toNat 8 + Int.toNat 4 : Nat) : Int) = q := by show (b.length : Int) - 12 = _; omega
    have HQ1 := Lib.hid hq1
    have HQ := Lib.hid hq
    clear hq hq1
    subst hv
    clear hr
    go_enter Tryz.func92, Tryz.ntmps92
    go_wp2_with fail
    have hr := read_any _ b _ (HV.out.below hb0)
    generalize w.alloc (.cells #[.int .u64 0, .slice none 0 0] 43) = W at *
    refine hr.mono ?_
    clear hr
    rintro e w1 ⟨rfl, hW1, hb1⟩
    rw [hz0] at hW1
    have hC1 := hC0.below hb1 hC0.lt
    have hB1 := hb0.trans (hb1.mono hb0.size)
    go_wp2_with fail
    refine (word_yes _ _ b _ _ _ _ hW1 OK8.out).mono ?_
    rintro e w2 ⟨rfl, hW2, hg2⟩
    rw [HI2.out]
    have hC2 := hC1.grown hg2 (by intro e; injection e; omega)
    have hB2 := hB1.grown hg2 hB1.size (by intro k hk; injection hk; omega)
    go_wp2_with fail
    refine (word_yes _ _ b _ _ _ _ hW2 OK4.out).mono ?_
    rintro e w3 ⟨rfl, hW3, hg3⟩
    rw [HM2.out]
    have hC3 := hC2.grown hg3 (by intro e; injection e; omega)
    have hB3 := hB2.grown hg3 hB2.size (by intro k hk; injection hk; omega)
    go_wp2_with fail
    refine (bad_false _ _ _ _ _ hW3).mono ?_
    rintro e w4 ⟨rfl, rfl⟩
    go_wp2_with fail
    refine (left_any _ _ _ _ _ _ hW3).mono ?_
    rintro e w4 ⟨rfl, n4, rfl⟩
    rw [HQ1.out]
    clear hW1 hW2 hg2 hg3 hC1 hC2 hb1 hB1 hB2
    by_cases hlt : q < m
    · have c0 := hC3.cell 0
      have c1 := hC3.cell 1
      have f0 := hC3.frozen 0
      have f1 := hC3.frozen 1
      simp at c0 c1
      clear hs1
      go_wp2_with fail
      obtain ⟨c0, c1, hB5, _⟩ := spot2 (hC3.drewN n4) (below_drewN hB3 n4) hB3.size (Nat.le_refl _) (.int .u64 0) (.slice none 0 0)
      generalize (((w3.drewN n4).setCell ⟨w.heap.size, 0, none⟩ (.int .u64 0)).setCell ⟨w.heap.size, 1, none⟩ (.slice none 0 0)) = w5 at *
      refine bodyPost_ret (v := .tuple #[.agg #[.int .u64 0, .slice none 0 0], .slice none 0 0, .bool false]) (by simp [results, Tryz.results92, go_sem, c0, c1]; try rfl) rfl ?_
      exact ⟨_, _, _, rfl, ⟨fun _ => ⟨⟨rfl, rfl⟩, .inr (.inl (by have := HQ.out; have := HM.out; omega))⟩, fun h => by cases h⟩, hB5⟩
    · have hmq : m ≤ q := by omega
      obtain ⟨V2, hs2, hV2, _⟩ := slice_bytes_toK (P := Tryz.prog) w0 byteT elemB hr1 (by rw [hlr]; exact hd1) hd2 .u64 m (by rw [hlr]; exact hmq) (m : Int) rfl
      obtain ⟨V3, hs3, hV3, _⟩ := slice_bytes_fromK (P := Tryz.prog) w0 byteT elemB hr1 (by rw [hlr]; exact hd1) hd2 .u64 m (by rw [hlr]; exact hmq) (m : Int) rfl
      rw [hlr] at hs2 hs3
      have HV3 := Lib.hid hV3
      have hG := sget_acc V2 ((b.drop 12).take m) (w3.drewN n4) ((hV2.below hB).below (below_drewN hB3 n4)) (by rw [List.length_take]; omega)
      clear hV2 hV3 hr1 hd1 hd2 hlt
      go_wp2_with fail
      refine hG.mono ?_
      clear hG
      rintro e w5 ⟨x, er, rfl, hG, hb5⟩
      have hC5 : Blk w5 w.heap.size 43 #[.int .u64 0, .slice none 0 0] := (hC3.drewN n4).below hb5 hC3.lt
      have hB5 := (below_drewN hB3 n4).trans (hb5.mono hB3.size)
      have c0 := hC5.cell 0
      have c1 := hC5.cell 1
      have f0 := hC5.frozen 0
      have f1 := hC5.frozen 1
      simp at c0 c1
      cases hg : getS nextMost ((b.drop 12).take m) with
      | error p =>
        obtain ⟨rfl, hSp⟩ := hG.no p hg
        obtain ⟨ge, rfl, _⟩ := hSp.is
        have HG := Lib.hid hg
        clear hg hG hs1 hs2 hs3
        go_wp2_with fail
        obtain ⟨c0, c1, hB6, _⟩ := spot2 hC5 hB5 hB5.size (Nat.le_refl _) (.int .u64 0) (.slice none 0 0)
        generalize ((w5.setCell ⟨w.heap.size, 0, none⟩ (.int .u64 0)).setCell ⟨w.heap.size, 1, none⟩ (.slice none 0 0)) = w6 at *
        refine bodyPost_ret (v := .tuple #[.agg #[.int .u64 0, .slice none 0 0], .slice none 0 0, .bool false]) (by simp [results, Tryz.results92, go_sem, c0, c1]; try rfl) rfl ?_
        refine ⟨_, _, _, rfl, ⟨fun _ => ⟨⟨rfl, rfl⟩, .inr (.inr fun sp hok e => ?_)⟩, fun h => by cases h⟩, hB6⟩
        rw [← HM.out] at e
        have h1 := get_enc nextMost (by decide) sp hok.1 hok.2.1 hok.2.2
        rw [e, HG.out] at h1
        cases h1
      | ok sp =>
        obtain ⟨rfl, hA⟩ := hG.yes sp hg
        have HG := Lib.hid hg
        obtain ⟨Ax, cx, hvx, _⟩ := hA.ss.form
        subst hvx
        clear hg hG
        go_wp2_with fail
        refine wp_region_mix [(0, false), (1, false), (2, false), (3, false), (4, false), (5, false), (6, true), (7, true), (8, true)] (fun _ => True) (by kernel_rfl) (by kernel_rfl) (by kernel_rfl) rfl trivial ?_
        repeat
          (refine mix_read (o := ⟨_, _, _, _, _, _⟩) (v := ?_) rfl (by rfl) (fun w' hS => ?_) ?_
           rotate_left
           go_simp
           with_reducible rfl
           try simp only [Act.put, List.setIfInBounds_toArray, List.set_cons_zero, List.set_cons_succ])
        refine mix_step (o := ⟨_, _, _, _, _, _⟩) rfl (fun K hK => ?_)
        go_simp
        refine hK.out _ _ trivial ?_
        clear hK K
        try simp only [Act.put, List.setIfInBounds_toArray, List.set_cons_zero, List.set_cons_succ]
        repeat
          (refine mix_step (o := ⟨_, _, _, _, _, _⟩) rfl (fun K hK => ?_)
           go_simp
           refine hK.out _ _ trivial ?_
           clear hK K
           try simp only [Act.put, List.setIfInBounds_toArray, List.set_cons_zero, List.set_cons_succ])
        refine mix_done ?_
        obtain ⟨c0, c1, hB6, hgr⟩ := spot2 hC5 hB5 hB5.size (Nat.le_refl _) (.int .u64 (i : Int)) (.slice Ax sp.length cx)
        have hsz : w.heap.size < (w3.drewN n4).heap.size + 1 := Nat.lt_of_lt_of_le hC3.lt (Nat.le_succ _)
        have hA6 := hA.grown hgr hsz
        have hB7 : Below w.heap.size w ((w5.setCell ⟨w.heap.size, 0, none⟩ (.int .u64 (i : Int))).setCell ⟨w.heap.size, 1, none⟩ (.slice Ax sp.length cx)).drew := hB6.drew
        have hA7 : Acc ((w5.setCell ⟨w.heap.size, 0, none⟩ (.int .u64 (i : Int))).setCell ⟨w.heap.size, 1, none⟩ (.slice Ax sp.length cx)).drew ((w3.drewN n4).heap.size + 1) (.slice Ax sp.length cx) sp := hA6.drewN 1
        have d0 : ((w5.setCell ⟨w.heap.size, 0, none⟩ (.int .u64 (i : Int))).setCell ⟨w.heap.size, 1, none⟩ (.slice Ax sp.length cx)).drew.cell? ⟨w.heap.size, 0, none⟩ = _ := c0
        have d1 : ((w5.setCell ⟨w.heap.size, 0, none⟩ (.int .u64 (i : Int))).setCell ⟨w.heap.size, 1, none⟩ (.slice Ax sp.length cx)).drew.cell? ⟨w.heap.size, 1, none⟩ = _ := c1
        generalize ((w5.setCell ⟨w.heap.size, 0, none⟩ (.int .u64 (i : Int))).setCell ⟨w.heap.size, 1, none⟩ (.slice Ax sp.length cx)).drew = w6 at *
        clear hB6 hA6 hs1 hs2 hs3 hA hW3 hC3 hC5 hB5 hb5 hB3 hgr f0 f1 c0 c1
        go_wp2_with fail
        refine bodyPost_ret (v := .tuple #[.agg #[.int .u64 (i : Int), .slice Ax sp.length cx], V3, .bool true]) (by simp [results, Tryz.results92, go_sem, d0, d1]; try rfl) rfl ?_
        have hmq' : 12 + m ≤ b.length := by have := HQ.out; omega
        obtain ⟨e1, e2, e3⟩ := enc_get nextMost _ sp HG.out
        refine ⟨_, _, _, rfl, ⟨(fun h => by cases h), fun _ => ⟨_, sp, by rw [HI.out], hA7.lower (by omega), by rw [← HM.out]; exact hmq', ⟨e1, fun s hs => ?_, e2⟩, by rw [← HM.out]; exact e3, ?_⟩⟩, hB7⟩
        · obtain ⟨k, hk⟩ := List.mem_iff_getElem?.1 hs
          exact hA7.ss.ok hk
        · have := HV3.out
          rw [List.drop_drop] at this
          rw [← HM.out]
          exact this

theorem Acc.ok {w : World} {base : Nat} {v : Value} {l : List Sn} (h : Acc w base v l) : ∀ s ∈ l, s.ok := fun s hs => by
  obtain ⟨k, hk⟩ := List.mem_iff_getElem?.1 hs
  exact h.ss.ok hk

structure ReadP (B : Nat) (w : World) (b : List UInt8) (x : Value) (ok : Bool) : Prop where
  no : ok = false → ∀ m, ValP m → pgBody m ≠ b
  yes : ok = true → ∃ r, OwnK 2 w B 43 (fun q => q < B) TnC x r ∧ pgBody r = b ∧ ∀ m, ValP m → pgBody m = b → m = r

theorem pgBody_ge (m : List Tn) : 2 ≤ (pgBody m).length := by rw [pgBody_length]; omega

set_option maxHeartbeats 3200000 in
theorem pread_any (v : Value) (b : List UInt8) (w : World) (h : Bs w v b) (hl : b.length ≤ 140737488355328) :
    Calls Tryz.prog 58 #[v] w fun e w' => ∃ x ok, e = .returned (.tuple #[x, .bool ok]) ∧ ReadP w.heap.size w' b x ok ∧ Below w.heap.size w w' := by
  have HV := Lib.hid h
  obtain ⟨A, c, hv, hc1, hc2, hr⟩ := h
  subst hv
  by_cases h2 : b.length < 2
  · have hbad : wordOk b 0 false 2 = false := by simp [wordOk, isW]; omega
    have HBAD := Lib.hid hbad
    have HNO : Hid (∀ m, ValP m → pgBody m ≠ b) := Lib.hid fun m _ e => by have := pgBody_ge m; rw [e] at this; omega
    clear hbad hr
    go_enter Tryz.func58, Tryz.ntmps58
    go_wp2_with fail
    refine (read_any _ b _ HV.out).mono ?_
    rintro e w1 ⟨rfl, hW1, hb1⟩
    go_wp2_with fail
    refine (word_no _ _ b _ _ _ _ hW1 HBAD.out).mono ?_
    rintro e w2 ⟨rfl, hW2, hg2⟩
    have hB2 := hb1.grown hg2 hb1.size (by intro k hk; injection hk; omega)
    go_wp2_with fail
    refine (bad_true _ _ _ _ _ hW2).mono ?_
    rintro e w3 ⟨rfl, rfl⟩
    go_wp2_with fail
    go_ret2
    exact ⟨_, _, rfl, ⟨fun _ => HNO.out, (fun h => by cases h)⟩, hB2⟩
  · obtain ⟨n, hn⟩ : ∃ n, n = num (b.take 2) := ⟨_, rfl⟩
    have hn2 : num ((b.drop 0).take (Int.toNat 2)) = n := by rw [hn]; rfl
    have hok : wordOk b 0 false 2 = true := by simp [wordOk, isW]; omega
    have hnl : n < 65536 := by
      have h1 := num_lt (b.take 2)
      have h3 : (b.take 2).length ≤ 2 := by rw [List.length_take]; omega
      have hp := Nat.pow_le_pow_right (show 0 < 256 by omega) h3
      have : (256 : Nat) ^ 2 = 65536 := by decide
      omega
    obtain ⟨V1, hs1, hV1, _⟩ := slice_bytes_fromK (P := Tryz.prog) w byteT elemB hr hc1 hc2 .i64 2 (by omega) 2 rfl
    have HN := Lib.hid hn
    have HN2 := Lib.hid hn2
    have HOK := Lib.hid hok
    have HV1 := Lib.hid hV1
    clear hn hn2 hok hr hV1
    go_enter Tryz.func58, Tryz.ntmps58
    go_wp2_with fail
    refine (read_any _ b _ HV.out).mono ?_
    rintro e w1 ⟨rfl, hW1, hb1⟩
    go_wp2_with fail
    refine (word_yes _ _ b _ _ _ _ hW1 HOK.out).mono ?_
    rintro e w2 ⟨rfl, hW2, hg2⟩
    rw [HN2.out]
    have hB2 := hb1.grown hg2 hb1.size (by intro k hk; injection hk; omega)
    go_wp2_with fail
    refine (bad_false _ _ _ _ _ hW2).mono ?_
    rintro e w3 ⟨rfl, rfl⟩
    by_cases h64 : 64 < n
    · have HNO : Hid (∀ m, ValP m → pgBody m ≠ b) := Lib.hid fun m hv e => by
        have := (pg_first (by have := hv.most; omega) e).2.1
        have h3 := hv.most
        have h4 := HN.out
        omega
      clear hs1 hb1 hW1 hW2 hg2
      go_wp2_with fail
      go_ret2
      exact ⟨_, _, rfl, ⟨fun _ => HNO.out, (fun h => by cases h)⟩, hB2⟩
    · have hn64 : n ≤ 64 := by omega
      clear h64 hb1 hW1 hW2 hg2 hnl
      go_wp2_with fail
      go_loopw [6, 7, 25] (fun rv lv i wr => ∃ (k q : Nat) (o : List Tn), k ≤ n ∧ i = .int .u64 (k : Int) ∧ Hid (PgAt b n k q o) ∧ OwnK 2 wr w.heap.size 43 (fun g => g < w.heap.size) TnC lv o ∧ Hid (Bs w rv (b.drop q)) ∧ Below w.heap.size w wr) (fun _ _ i _ => n - (intOf i).toNat)
      case atStart =>
        refine ⟨0, 2, [], Nat.zero_le _, rfl, Lib.hid ?_, OwnK.nil _ _ _ _ _ _, HV1, hB2⟩
        rw [HN.out]
        exact PgAt.start (by omega)
      case round =>
        obtain ⟨k, q, o, hk, rfl, HP, hO, HR, hB⟩ := hrel
        by_cases hlt : k < n
        · have hol : o.length = k := HP.out.len
          go_wp2_with fail
          refine (pnext_any _ (b.drop q) w _ hB HR.out (by rw [List.length_drop]; omega)).mono ?_
          rintro e w4 ⟨x, r, ok, rfl, hN, hb4⟩
          have hB4 := hB.trans (hb4.mono hB.size)
          cases ok with
          | false =>
            obtain ⟨⟨rfl, rfl⟩, hbad⟩ := hN.no rfl
            have HNO : Hid (∀ m, ValP m → pgBody m ≠ b) := Lib.hid (HP.out.none hlt (by
              have h1 : (b.drop q).length = b.length - q := List.length_drop ..
              have h2 : nxMany (b.drop q) = num ((b.drop (q + 8)).take 4) := by rw [nxMany, List.drop_drop]
              rw [← h2]
              rw [List.drop_drop] at hbad
              have hle := HP.out.le
              rcases hbad with h | h | h
              · exact .inl (by omega)
              · exact .inr (.inl (by omega))
              · exact .inr (.inr h)))
            clear hbad hN hO
            go_wp2_with fail
            go_ret2
            exact ⟨_, _, rfl, ⟨fun _ => HNO.out, (fun h => by cases h)⟩, hB4.alloc hB4.size _⟩
          | true =>
            obtain ⟨d, sp, rfl, hA, hm, hok, he, hR⟩ := hN.yes rfl
            have hil := nxId_lt (b.drop q)
            obtain ⟨m, hmm⟩ : ∃ m, m = nxMany (b.drop q) := ⟨_, rfl⟩
            have hm2 : num ((b.drop (q + 8)).take 4) = m := by rw [hmm, nxMany, List.drop_drop]
            rw [← hmm] at hm he hR
            rw [List.drop_drop] at he hR
            have hlq : (b.drop q).length = b.length - q := List.length_drop ..
            have hqle := HP.out.le
            have HG := Lib.hid (HP.out.go encS_inj hlt (sp := sp) (many := m) (by omega) hm2 he hok)
            obtain ⟨i, hi⟩ : ∃ i, i = num ((b.drop q).take 8) := ⟨_, rfl⟩
            rw [← hi] at HG hil ⊢
            have HR2 : Hid (Bs w r (b.drop (q + 12 + m))) := Lib.hid (by rw [Nat.add_assoc]; exact hR)
            obtain ⟨Ad, cd, hdv, _⟩ := hA.ss.form
            have hKd : Keep (fun g => g < w.heap.size ∨ u7.ownBlock = some g) (fun u => TnC u ⟨(i : Int), sp⟩ [.int .u64 (i : Int), d]) w4 := fun u ha =>
              ⟨⟨by show (0 : Int) ≤ (i : Int); omega, by show (i : Int) ≤ _; omega⟩, d, rfl, (hA.keep (bad := fun g => g < w.heap.size ∨ u7.ownBlock = some g) fun g hg => by
                rcases hg with hg | hg
                · exact Nat.lt_of_lt_of_le hg hB.size
                · exact (hO.lt g hg).2) u ha⟩
            have ha1 : Below w4.heap.size w4 ((w4.alloc (.cells #[.int .u64 (i : Int), d] 43)).alloc (.cells #[.int .u64 (i : Int), d] 43)) := ((Below.refl _ _).alloc (Nat.le_refl _) _).alloc (by simp) _
            have hO6 := (hO.below hb4).below ha1
            have hK6 := hKd.below ha1
            have hB6 := hB4.trans (ha1.mono hB4.size)
            have hLv : Lv 2 ((w4.alloc (.cells #[.int .u64 (i : Int), d] 43)).alloc (.cells #[.int .u64 (i : Int), d] 43)) (.slice (some ⟨w4.heap.size + 1, 0, none⟩) 1 1) [[.int .u64 (i : Int), d]] := by
              have := Lv.lit1 (w4.alloc (.cells #[.int .u64 (i : Int), d] 43)) [.int .u64 (i : Int), d] 43
              simpa using this
            have HO6 := Lib.hid hO6
            have HK6 := Lib.hid hK6
            have HLV := Lib.hid hLv
            have HB6 := Lib.hid hB6
            have HB4 := Lib.hid hB4
            have HLT := Lib.hid hO.lt
            clear hi hmm hm2 he hR hok hqle hlq hm hO hO6 hK6 hLv hB6 hB4 hKd hA ha1 hN HP HR hb4 hB hB2
            subst hdv
            go_wp2_with (at_builtin; refine wpList_append_K trT rfl _ _ rfl rfl HO6.out rfl HLV.out HK6.out (by simp [Value.oneCell']) (by omega) (by decide) HB6.out.size ?_)
            intro v7 w7 hO7 hg7 hv7
            go_wp2_with fail
            refine ⟨⟨k + 1, q + 12 + m, o ++ [⟨(i : Int), sp⟩], by omega, by go_num, HG, hO7, HR2, HB6.out.grown hg7 HB6.out.size fun g hg => (HLT.out g hg).1⟩, by simp [intOf]; omega⟩
        · have hkn : k = n := by omega
          subst hkn
          have HO := Lib.hid hO
          have HD := Lib.hid HP.out.done
          have hle := HP.out.le
          have hrf := HR.out
          obtain ⟨Ar, cr, hrv, _⟩ := hrf
          subst hrv
          have hlq : (b.drop q).length = b.length - q := List.length_drop ..
          clear hO HP HR
          by_cases hq : q = b.length
          · have h0 : (b.drop q).length = 0 := by omega
            rw [h0]
            go_wp2_with fail
            go_ret2
            exact ⟨_, _, rfl, ⟨(fun h => by cases h), fun _ => ⟨o, HO.out, HD.out.1 hq, fun m hv he => (HD.out.2 m hv he).1⟩⟩, hB⟩
          · have h0 : ((b.drop q).length : Int) ≠ 0 := by omega
            go_wp2_with fail
            go_ret2
            refine ⟨_, _, rfl, ⟨fun _ m hv he => hq (HD.out.2 m hv he).2, fun h => ?_⟩, hB⟩
            simp at h
            omega

theorem Ts.valP {w : World} {v : Value} {l : List Tn} (h : Ts w v l) (hp : pgB l = true) : ValP l := by
  obtain ⟨h1, h2⟩ := pgB_iff.1 hp
  obtain ⟨xs, _, h4⟩ := h
  have key : ∀ t ∈ l, (0 ≤ t.id ∧ t.id ≤ 18446744073709551615) ∧ ∀ s ∈ t.sp, s.ok := fun t ht => by
    obtain ⟨i, hi⟩ := List.mem_iff_getElem?.1 ht
    obtain ⟨x, _, hid, d, _, hd⟩ := h4.right hi
    refine ⟨hid, fun s hs => ?_⟩
    obtain ⟨k, hk⟩ := List.mem_iff_getElem?.1 hs
    exact hd.ok hk
  exact ⟨h2, h1, fun t ht => (key t ht).1, fun t ht => (key t ht).2⟩
theorem ValP.pgB {l : List Tn} (h : ValP l) : pgB l = true := pgB_iff.2 ⟨h.most, h.is⟩

structure GetP (w : World) (x : List UInt8) (l e : Value) : Prop where
  short : x.length < 4 → l = .slice none 0 0 ∧ e = code 2
  sum : 4 ≤ x.length → tailOf x ≠ crcOf (bodyOf x) → l = .slice none 0 0 ∧ e = code 7
  form : 4 ≤ x.length → tailOf x = crcOf (bodyOf x) → (∀ m, ValP m → pgBody m ≠ bodyOf x) → l = .slice none 0 0 ∧ e = code 2
  yes : ∀ m, 4 ≤ x.length → tailOf x = crcOf (bodyOf x) → ValP m → pgBody m = bodyOf x → e = .nilIface ∧ Ts w l m

structure GetK (B : Nat) (w : World) (x : List UInt8) (l e : Value) : Prop where
  pp : GetP w x l e
  own : ∀ m, 4 ≤ x.length → tailOf x = crcOf (bodyOf x) → ValP m → pgBody m = bodyOf x → OwnK 2 w B 43 (fun q => q < B) TnC l m

set_option maxHeartbeats 1600000 in
theorem pget_own (v : Value) (x : List UInt8) (w : World) (h : Bs w v x) (hl : x.length ≤ 140737488355328) :
    Calls Tryz.prog 36 #[v] w fun e w' => ∃ l er, e = .returned (.tuple #[l, er]) ∧ GetK w.heap.size w' x l er ∧ Below w.heap.size w w' := by
  by_cases h4 : x.length < 4
  · go_enter Tryz.func36, Tryz.ntmps36
    go_wp2_with fail
    refine (open_short x v _ h4 h).mono ?_
    rintro e w1 ⟨rfl, rfl⟩
    go_wp2_with fail
    go_ret2
    exact ⟨_, _, rfl, ⟨⟨fun _ => ⟨rfl, rfl⟩, fun h => absurd h (by omega), fun h => absurd h (by omega), fun _ h => absurd h (by omega)⟩, fun _ h => absurd h (by omega)⟩, Below.refl _ _⟩
  · have hx4 : 4 ≤ x.length := by omega
    have hbl : Hid ((bodyOf x).length ≤ 140737488355328) := Lib.hid (by rw [bodyOf_length]; omega)
    go_enter Tryz.func36, Tryz.ntmps36
    go_wp2_with fail
    refine (open_long x v _ hx4 hl h).mono ?_
    rintro e w1 ⟨b, f, rfl, hO, hb1⟩
    by_cases heq : tailOf x = crcOf (bodyOf x)
    · obtain ⟨rfl, hown⟩ := hO.yes heq
      have HE := Lib.hid heq
      obtain ⟨Ab, cb, hbv, _⟩ := hown.form
      subst hbv
      clear hO heq
      go_wp2_with fail
      refine (pread_any _ (bodyOf x) _ hown.bs hbl.out).mono ?_
      rintro e w2 ⟨l, ok, rfl, hR, hb2⟩
      have hB2 := hb1.trans (hb2.mono hb1.size)
      cases ok with
      | false =>
        have HN := Lib.hid (hR.no rfl)
        clear hR
        go_wp2_with fail
        go_ret2
        exact ⟨_, _, rfl, ⟨⟨fun h => absurd h h4, fun _ h => absurd HE.out h, fun _ _ _ => ⟨rfl, rfl⟩, fun m _ _ hv he => absurd he (HN.out m hv)⟩, fun m _ _ hv he => absurd he (HN.out m hv)⟩, hB2⟩
      | true =>
        obtain ⟨r, hT0, hr1, hr2⟩ := hR.yes rfl
        have hT := hT0.ts
        have HT := Lib.hid hT
        have HO2 : Hid (OwnK 2 w2 w.heap.size 43 (fun q => q < w.heap.size) TnC l r) := Lib.hid ((hT0.less fun q hq => .inl (Nat.lt_of_lt_of_le hq hb1.size)).lower hb1.size)
        have HR1 := Lib.hid hr1
        have HR2 := Lib.hid hr2
        obtain ⟨Al, cl, hlv, _⟩ := hT.form
        subst hlv
        clear hR hT hT0 hr1 hr2
        go_wp2_with fail
        refine (isPage_any _ r _ HT.out).mono ?_
        rintro e w3 ⟨rfl, hb3⟩
        have hB3 := hB2.trans (hb3.mono hB2.size)
        cases hp : pgB r with
        | false =>
          have HP := Lib.hid hp
          clear hp
          go_wp2_with fail
          go_ret2
          have hno : ∀ m, ValP m → pgBody m ≠ bodyOf x := fun m hv he => by
            have e := HR2.out m hv he
            subst e
            have := hv.pgB
            rw [HP.out] at this
            cases this
          exact ⟨_, _, rfl, ⟨⟨fun h => absurd h h4, fun _ h => absurd HE.out h, fun _ _ _ => ⟨rfl, rfl⟩, fun m _ _ hv he => absurd he (hno m hv)⟩, fun m _ _ hv he => absurd he (hno m hv)⟩, hB3⟩
        | true =>
          have HV := Lib.hid (HT.out.valP hp)
          clear hp
          go_wp2_with fail
          go_ret2
          refine ⟨_, _, rfl, ⟨⟨fun h => absurd h h4, fun _ h => absurd HE.out h, fun _ _ hn => absurd HR1.out (hn r HV.out), fun m _ _ hv he => ?_⟩, fun m _ _ hv he => ?_⟩, hB3⟩
          · have e := HR2.out m hv he
            subst e
            exact ⟨rfl, HT.out.below hb3⟩
          · have e := HR2.out m hv he
            subst e
            exact HO2.out.below hb3
    · obtain ⟨rfl, rfl⟩ := hO.no heq
      have HE := Lib.hid heq
      clear hO heq
      go_wp2_with fail
      go_ret2
      exact ⟨_, _, rfl, ⟨⟨fun h => absurd h h4, fun _ _ => ⟨rfl, rfl⟩, fun _ h => absurd h HE.out, fun _ _ h => absurd h HE.out⟩, fun _ _ h => absurd h HE.out⟩, hb1⟩

theorem pfew {l : List Tn} {n : Nat} (h : fewT l (n : Int) = true) : l.length ≤ 100 ∧ (flatT l).length ≤ n ∧ ∀ s ∈ flatT l, s.data.length ≤ 200 := by
  simp only [fewT, fewB, Bool.and_eq_true, decide_eq_true_iff, List.all_eq_true] at h
  refine ⟨by omega, by omega, fun s hs => ?_⟩
  simp only [flatT, List.mem_flatMap] at hs
  obtain ⟨t, ht, hs⟩ := hs
  exact (h.1 t ht).1 s hs

end Go.Proofs.YtfccfnbmmgfgcaaGreatDoor

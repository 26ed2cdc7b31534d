/-
  CONTRACT of span.Get.
-/
import Derived.Test.YtcpbikogccdknaaSpanE
namespace Go.Proofs.Ytcpbikogccdknaa
open Go.RowKit

theorem spanT : ElemT Try.prog 47 55 5 56 := ⟨Try.underlying47, by omega, by
  obtain ⟨i, h1, h2, h3, h4⟩ := info_parts (P := Try.prog) (e := 55) (z := .agg #[.int .u64 0, .int .u64 0, .int .i64 0, .int .i64 0, .slice none 0 0]) (size := 5) (bytes := 56) (by kernel_rfl)
  exact ⟨i, _, h1, h2, h3, h4, rfl⟩⟩

/-- a span of the call's own, beside a block -/
def SpO (w : World) (base : Nat) (row : Option Nat) (s : Sn) (x : List Value) : Prop := s.ok ∧ ∃ d, x = spCells s d ∧ Own w base 5 d s.data ∧ (d.ownBlock = none ∨ d.ownBlock ≠ row)
/-- spans of the call's own -/
structure Acc (w : World) (base : Nat) (v : Value) (l : List Sn) : Prop where
  is : ∃ xs, OwnL 5 w base 55 v xs ∧ Two (SpO w base v.ownBlock) l xs
section
variable {w w' : World} {base : Nat} {v : Value} {l : List Sn}
theorem Acc.nil (w : World) (base : Nat) : Acc w base (.slice none 0 0) [] := ⟨[], OwnL.nil _ _ _ _, Two.nil⟩
theorem Acc.ss (h : Acc w base v l) : Ss w v l := by
  obtain ⟨xs, h1, h2⟩ := h.is
  refine ⟨xs, h1.lv, h2.mono fun s x hx => ?_⟩
  obtain ⟨ho, d, hx, hd, _⟩ := hx
  exact ⟨ho, d, hx, hd.bs⟩
theorem Acc.grown {g : Nat} (h : Acc w base v l) (hg : w.grownBy w' (some g)) (hgb : g < base) : Acc w' base v l := by
  obtain ⟨xs, h1, h2⟩ := h.is
  refine ⟨xs, h1.kept hg (.inr (h1.ne_ hgb)), h2.mono fun s x hx => ?_⟩
  obtain ⟨ho, d, hx, hd, hs⟩ := hx
  exact ⟨ho, d, hx, hd.kept hg (.inr (hd.ne_ hgb)), hs⟩
theorem Acc.below (h : Acc w base v l) (hb : Below w.heap.size w w') : Acc w' base v l := by
  obtain ⟨xs, h1, h2⟩ := h.is
  refine ⟨xs, h1.below hb, h2.mono fun s x hx => ?_⟩
  obtain ⟨ho, d, hx, hd, hs⟩ := hx
  exact ⟨ho, d, hx, hd.below hb, hs⟩
theorem Acc.drewN (h : Acc w base v l) (n : Nat) : Acc (w.drewN n) base v l := h.below (below_drewN (Below.refl _ _) n)
theorem Acc.lt (h : Acc w base v l) : ∀ g, v.ownBlock = some g → base ≤ g ∧ g < w.heap.size := fun g hg => by
  obtain ⟨xs, h1, _⟩ := h.is
  exact ⟨h1.ge g hg, h1.lt g hg⟩
end

theorem spCells_one (s : Sn) (d : Value) {w : World} {base : Nat} (hd : Own w base 5 d s.data) : ∀ y ∈ [spCells s d], ∀ u ∈ y, u.oneCell' = true := by
  obtain ⟨A, c, rfl, _⟩ := hd.form
  intro y hy u hu
  simp only [List.mem_singleton] at hy
  subst hy
  simp only [spCells, List.mem_cons, List.not_mem_nil, or_false] at hu
  rcases hu with rfl | rfl | rfl | rfl | rfl <;> rfl

theorem wpList_append_span (w : World) {ops : Array Oper} {rest : List Oper} {o : Oper} {a : Act} {Q : Exit → Act → World → Prop} (hgd : o.guard = none) (sx x : Operand)
    (ho : o.op = .call { callee := .builtin .append, args := #[sx, x], argTypes := #[47, 47] })
    (base : Nat) (v : Value) (l : List Sn) (s : Sn) (d : Value) (hs : a.eval sx = v) (hacc : Acc w base v l) (V : Value) (hx : a.eval x = V) (hV : Lv 5 w V [spCells s d]) (hok : s.ok) (hd : Own w base 5 d s.data) (hsep : d.ownBlock = none ∨ d.ownBlock ≠ v.ownBlock)
    (hl : l.length ≤ 100000) (hbase : base ≤ w.heap.size)
    (h : ∀ v' w', Acc w' base v' (l ++ [s]) → w.grownBy w' v.ownBlock → wpList Try.prog ops Q rest (a.put o.dst v') w') : wpList Try.prog ops Q (o :: rest) a w := by
  obtain ⟨xs, h1, h2⟩ := hacc.is
  have hlen := h2.len
  refine wpList_append_elems w spanT hgd sx x ho base v xs hs h1 V _ hx hV (spCells_one s d hd) (by simp [maxLen]; omega) (by simp; omega) hbase ?_
  intro v' w' hown hg hv
  refine h v' w' ⟨_, hown, ?_⟩ hg
  have key : ∀ d' : Value, ∀ k : List UInt8, Own w base 5 d' k → (d'.ownBlock = none ∨ d'.ownBlock ≠ v.ownBlock) → (d'.ownBlock = none ∨ d'.ownBlock ≠ v'.ownBlock) := by
    intro d' k hd' hs'
    rcases hs' with h0 | h0
    · exact .inl h0
    · rcases hv with e | e
      · rw [e]; exact .inr h0
      · rw [e]
        right
        intro e'
        have := (World.ownsRow.lt hd' _ e').2
        omega
  refine Two.snoc (h2.mono fun s x hx => ?_) ⟨hok, d, rfl, hd.kept hg hsep, key d _ hd hsep⟩
  obtain ⟨ho, d', hx, hd', hs'⟩ := hx
  exact ⟨ho, d', hx, hd'.kept hg hs', key d' _ hd' hs'⟩

theorem goS_bad {most : Int} {l : List UInt8} {p m : Nat} (h : (rdNext most l (p, false)).2 = true) : goS most l (m + 1) p = .error (rdNext most l (p, false)).1 := by
  rw [goS, if_pos h]
theorem goS_may {most : Int} {l : List UInt8} {p m : Nat} (h : (rdNext most l (p, false)).2 = false) (h' : mayB (rdSpan most l (p, false)) = false) : goS most l (m + 1) p = .error p := by
  rw [goS, if_neg (by rw [h]; simp), if_pos h']
theorem goS_go {most : Int} {l : List UInt8} {p m : Nat} (h : (rdNext most l (p, false)).2 = false) (h' : mayB (rdSpan most l (p, false)) = true) : goS most l (m + 1) p = prep [rdSpan most l (p, false)] (goS most l m (rdNext most l (p, false)).1) := by
  rw [goS, if_neg (by rw [h]; simp), if_neg (by rw [h']; simp)]
  cases goS most l m (rdNext most l (p, false)).1 <;> rfl
theorem prep_prep (a b : List Sn) (r : Except Nat (List Sn)) : prep a (prep b r) = prep (a ++ b) r := by
  cases r <;> simp [prep]

/-- what Get tells -/
structure GetS (w : World) (r : Except Nat (List Sn)) (x e : Value) : Prop where
  no : ∀ p, r = .error p → x = .slice none 0 0 ∧ Sp w e p 2
  yes : ∀ l, r = .ok l → e = .nilIface ∧ Ss w x l

/-- what Get tells, the spans being the call's own -/
structure GetA (w : World) (base : Nat) (r : Except Nat (List Sn)) (x e : Value) : Prop where
  no : ∀ p, r = .error p → x = .slice none 0 0 ∧ Sp w e p 2
  yes : ∀ l, r = .ok l → e = .nilIface ∧ Acc w (base + 1) x l

theorem bad_true (g : Nat) (v : Value) (l : List UInt8) (p : Nat) (w : World) (h : WR w g v l p true) :
    Calls Try.prog 50 #[.pointer (some ⟨g, 0, none⟩)] w fun e w' => e = .returned (.int .i64 p) ∧ w = w' := bad_any g v l p true w h
theorem bad_false (g : Nat) (v : Value) (l : List UInt8) (p : Nat) (w : World) (h : WR w g v l p false) :
    Calls Try.prog 50 #[.pointer (some ⟨g, 0, none⟩)] w fun e w' => e = .returned (.int .i64 (-1)) ∧ w = w' := bad_any g v l p false w h

theorem rdSpan_ok (most : Int) (l : List UInt8) (x : Nat × Bool) : (rdSpan most l x).ok := by
  have h1 := wo8_lt l x
  have h2 := wo8_lt l (wp8 l x)
  refine ⟨by simp [rdSpan], by simp only [rdSpan]; omega, by simp [rdSpan], by simp only [rdSpan]; omega, ?_, ?_, ?_, ?_⟩ <;> simp only [rdSpan, wrap64] <;> omega

theorem wOut2_lt (l : List UInt8) : wOut l 0 false 2 < 65536 := by
  unfold wOut
  split
  · exact tsize_lt l 0
  · omega

set_option maxRecDepth 100000 in
set_option maxHeartbeats 3200000 in
theorem sget_acc (v : Value) (b : List UInt8) (w : World) (h : Bs w v b) (_hl : b.length ≤ 140737488355328) :
    Calls Try.prog 63 #[v] w fun e w' => ∃ x er, e = .returned (.tuple #[x, er]) ∧ GetA w' w.heap.size (getS nextMost b) x er ∧ Below w.heap.size w w' := by
  go_enter Try.func63, Try.ntmps63
  go_wp2_with fail
  refine (read_any v b _ h).mono ?_
  rintro e w1 ⟨rfl, hW1, hb1⟩
  go_wp2_with fail
  refine (word_all _ v b _ _ _ _ hW1).mono ?_
  rintro e w2 ⟨rfl, hW2, hg2⟩
  have hB2 : Below w.heap.size w w2 := hb1.grown hg2 hb1.size (by intro k hk; injection hk; omega)
  have hn := wOut2_lt b
  obtain ⟨n, hne⟩ : ∃ n, n = wOut b 0 false 2 := ⟨_, rfl⟩
  rw [← hne] at hn
  have hwt : wrap64 (n : Int) = (n : Int) := IntWalk.wrap64_in _ ⟨by omega, by omega⟩
  rw [← hne]
  have HNE := Lib.hid hne
  clear hne hW1 hg2 hb1
  cases hk : wordOk b 0 false 2 with
  | false =>
    have HK := Lib.hid hk
    have hn0 : n = 0 := by rw [HNE.out, wOut, if_neg (by rw [hk]; simp)]
    have hp0 : wNext b 0 false 2 = 0 := by rw [wNext, if_neg (by rw [hk]; simp)]
    rw [hk, hp0] at hW2
    subst hn0
    clear hk hp0 hwt HNE hn
    go_wp2_with fail
    refine wp_loop_rounds 1 ?_
    rw [rounds_succ]
    go_wp2_with fail
    refine (bad_true _ _ _ _ _ hW2).mono ?_
    rintro e w3 ⟨rfl, rfl⟩
    go_wp2_with fail
    refine (bad_true _ _ _ _ _ hW2).mono ?_
    rintro e w3 ⟨rfl, rfl⟩
    go_wp2_with fail
    refine (amiss_any _ _).mono ?_
    rintro e w3 ⟨ev, rfl, hsp, hb3⟩
    go_wp2_with fail
    go_ret2
    refine ⟨_, _, rfl, ⟨fun p hp => ?_, fun l hl => ?_⟩, hB2.trans (hb3.mono hB2.size)⟩
    · rw [getS, if_neg (by rw [HK.out]; simp)] at hp
      injection hp with hp
      subst hp
      exact ⟨rfl, hsp⟩
    · rw [getS, if_neg (by rw [HK.out]; simp)] at hl
      cases hl
  | true =>
    have HK := Lib.hid hk
    rw [hk] at hW2
    clear hk
    go_wp2_with fail
    clear hwt
    go_loopw [6, 15] (fun lv i wr => ∃ (k p : Nat) (acc : List Sn), k ≤ n ∧ i = .int .i64 k ∧ acc.length = k ∧ WR wr w.heap.size v b p false ∧ Acc wr (w.heap.size + 1) lv acc ∧ Below w.heap.size w wr ∧ Hid (getS nextMost b = prep acc (goS nextMost b (n - k) p))) (fun _ i _ => n - (intOf i).toNat)
    case atStart =>
      refine ⟨0, _, [], Nat.zero_le _, rfl, rfl, hW2, Acc.nil _ _, hB2, Lib.hid ?_⟩
      rw [getS, if_pos HK.out, ← HNE.out]
      simp only [Nat.sub_zero]
      cases goS nextMost b n (wNext b 0 false 2) <;> rfl
    case round =>
      obtain ⟨k, p, acc, hk, rfl, hacl, hW, hA, hB, HG⟩ := hrel
      clear hW2 hB2
      by_cases hlt : k < n
      · obtain ⟨m, hm⟩ : ∃ m, n - k = m + 1 := ⟨n - k - 1, by omega⟩
        rw [hm] at HG
        have hm' : n - (k + 1) = m := by omega
        have HMM := Lib.hid hm'
        have HACL := Lib.hid hacl
        have hacl' : acc.length ≤ 100000 := by omega
        clear hm hm' hacl
        have hWlt := hW.blk.lt
        have hzB := hB.size
        go_wp2_with fail
        refine (place_any _ _ _ _ _ _ hW).mono ?_
        rintro e w3 ⟨rfl, n3, rfl⟩
        go_wp2_with fail
        refine (next_any _ v b (p, false) _ (hW.drewN n3)).mono ?_
        rintro e w4 ⟨d, rfl, hd4, hW4, hg4⟩
        have hA4 := (hA.drewN n3).grown hg4 (by omega)
        have hB4 : Below w.heap.size w w4 := (below_drewN hB n3).grown hg4 (show w.heap.size ≤ wr.heap.size from hzB) (by intro q hq; injection hq; omega)
        have hz4 := hg4.size
        have hsep : d.ownBlock = none ∨ d.ownBlock ≠ u6.ownBlock := by
          cases hdo : d.ownBlock with
          | none => exact .inl rfl
          | some q =>
            right
            intro e
            have h1 := (hA.lt q e.symm).2
            have h2 := hd4.ge q hdo
            have h3 : (wr.drewN n3).heap.size = wr.heap.size := rfl
            omega
        have hd5 := hd4.lower (base' := w.heap.size + 1) (show w.heap.size + 1 ≤ wr.heap.size from hWlt)
        have hok := rdSpan_ok nextMost b (p, false)
        clear hd4 hA hB hg4 hW
        cases hbd : (rdNext nextMost b (p, false)).2 with
        | true =>
          rw [hbd] at hW4
          rw [goS_bad hbd] at HG
          obtain ⟨q, hq⟩ : ∃ q, q = (rdNext nextMost b (p, false)).1 := ⟨_, rfl⟩
          rw [← hq] at hW4 HG
          obtain ⟨A', c', hdv, _⟩ := hd5.form
          clear hbd hq hsep hA4 hok
          subst hdv
          generalize rdSpan nextMost b (p, false) = s at *
          have hb5 : Below w.heap.size w (w4.alloc (.cells #[.int .u64 s.tr, .int .u64 s.id, .int .i64 s.st, .int .i64 s.en, .slice A' s.data.length c'] 55)) := hB4.alloc hB4.size _
          have hW5 := hW4.alloc (.cells #[.int .u64 s.tr, .int .u64 s.id, .int .i64 s.st, .int .i64 s.en, .slice A' s.data.length c'] 55)
          clear hd5 hW4 hB4
          go_wp2_with fail
          refine (bad_true _ _ _ _ _ hW5).mono ?_
          rintro e w6 ⟨rfl, rfl⟩
          go_wp2_with fail
          refine (bad_true _ _ _ _ _ hW5).mono ?_
          rintro e w6 ⟨rfl, rfl⟩
          go_wp2_with fail
          refine (bad_true _ _ _ _ _ hW5).mono ?_
          rintro e w6 ⟨rfl, rfl⟩
          go_wp2_with fail
          refine (amiss_any _ _).mono ?_
          rintro e w7 ⟨ev, rfl, hsp, hb7⟩
          go_wp2_with fail
          go_ret2
          refine ⟨_, _, rfl, ⟨fun p' hp => ?_, fun l hl => ?_⟩, hb5.trans (hb7.mono hb5.size)⟩
          · rw [HG.out] at hp
            injection hp with hp
            subst hp
            exact ⟨rfl, hsp⟩
          · rw [HG.out] at hl
            cases hl
        | false =>
          rw [hbd] at hW4
          cases hm : mayB (rdSpan nextMost b (p, false)) with
          | false =>
            rw [goS_may hbd hm] at HG
            have HMS := Lib.hid hm
            obtain ⟨A', c', hdv, hdf⟩ := hd5.form
            clear hbd hm hsep hA4
            subst hdv
            generalize (rdNext nextMost b (p, false)).1 = q at *
            generalize rdSpan nextMost b (p, false) = s at *
            have hb5 : Below w.heap.size w (w4.alloc (.cells #[.int .u64 s.tr, .int .u64 s.id, .int .i64 s.st, .int .i64 s.en, .slice A' s.data.length c'] 55)) := hB4.alloc hB4.size _
            have hW5 := hW4.alloc (.cells #[.int .u64 s.tr, .int .u64 s.id, .int .i64 s.st, .int .i64 s.en, .slice A' s.data.length c'] 55)
            have hV : SV (w4.alloc (.cells #[.int .u64 s.tr, .int .u64 s.id, .int .i64 s.st, .int .i64 s.en, .slice A' s.data.length c'] 55)) (.agg #[.int .u64 s.tr, .int .u64 s.id, .int .i64 s.st, .int .i64 s.en, .slice A' s.data.length c']) s := ⟨hok, _, rfl, (hd5.alloc _).bs⟩
            clear hd5 hW4 hB4 hdf
            go_wp2_with fail
            refine (bad_false _ _ _ _ _ hW5).mono ?_
            rintro e w6 ⟨rfl, rfl⟩
            go_wp2_with fail
            refine (may_any _ s _ hV).mono ?_
            rintro e w6 ⟨rfl, hb6⟩
            rw [HMS.out]
            have hb66 := hb5.trans (hb6.mono hb5.size)
            go_wp2_with fail
            refine (amiss_any _ _).mono ?_
            rintro e w7 ⟨ev, rfl, hsp, hb7⟩
            go_wp2_with fail
            go_ret2
            refine ⟨_, _, rfl, ⟨fun p' hp => ?_, fun l hl => ?_⟩, hb66.trans (hb7.mono hb66.size)⟩
            · rw [HG.out] at hp
              injection hp with hp
              subst hp
              exact ⟨rfl, hsp⟩
            · rw [HG.out] at hl
              cases hl
          | true =>
            rw [goS_go hbd hm, prep_prep] at HG
            have HMS := Lib.hid hm
            obtain ⟨A', c', hdv, hdf⟩ := hd5.form
            clear hbd hm
            subst hdv
            generalize (rdNext nextMost b (p, false)).1 = q at *
            generalize rdSpan nextMost b (p, false) = s at *
            have hBl5 := Blk.new w4 55 #[.int .u64 s.tr, .int .u64 s.id, .int .i64 s.st, .int .i64 s.en, .slice A' s.data.length c']
            have hb5 : Below w.heap.size w (w4.alloc (.cells #[.int .u64 s.tr, .int .u64 s.id, .int .i64 s.st, .int .i64 s.en, .slice A' s.data.length c'] 55)) := hB4.alloc hB4.size _
            have hW5 := hW4.alloc (.cells #[.int .u64 s.tr, .int .u64 s.id, .int .i64 s.st, .int .i64 s.en, .slice A' s.data.length c'] 55)
            have hA5 := hA4.below ((Below.refl w4.heap.size w4).alloc (Nat.le_refl _) (.cells #[.int .u64 s.tr, .int .u64 s.id, .int .i64 s.st, .int .i64 s.en, .slice A' s.data.length c'] 55))
            have hd6 := hd5.alloc (.cells #[.int .u64 s.tr, .int .u64 s.id, .int .i64 s.st, .int .i64 s.en, .slice A' s.data.length c'] 55)
            have hV : SV (w4.alloc (.cells #[.int .u64 s.tr, .int .u64 s.id, .int .i64 s.st, .int .i64 s.en, .slice A' s.data.length c'] 55)) (.agg #[.int .u64 s.tr, .int .u64 s.id, .int .i64 s.st, .int .i64 s.en, .slice A' s.data.length c']) s := ⟨hok, _, rfl, hd6.bs⟩
            clear hd5 hW4 hB4 hdf hA4
            go_wp2_with fail
            refine (bad_false _ _ _ _ _ hW5).mono ?_
            rintro e w6 ⟨rfl, rfl⟩
            go_wp2_with fail
            refine (may_any _ s _ hV).mono ?_
            rintro e w6 ⟨rfl, hb6⟩
            rw [HMS.out]
            have hb66 := hb5.trans (hb6.mono hb5.size)
            have hBl6 := hBl5.below hb6 hBl5.lt
            have hW6 := hW5.below hb6
            have hA6 := hA5.below hb6
            have hd7 := hd6.below hb6
            have d0 := hBl6.cell 0
            have d1 := hBl6.cell 1
            have d2 := hBl6.cell 2
            have d3 := hBl6.cell 3
            have d4 := hBl6.cell 4
            simp at d0 d1 d2 d3 d4
            have hz6 := hb66.size
            have hl6 := hW6.blk.lt
            clear hb5 hb6 hBl6 hBl5 hW5 hA5 hd6 hV
            have hA7 := hA6.below ((Below.refl w6.heap.size w6).alloc (Nat.le_refl _) (.cells #[.int .u64 s.tr, .int .u64 s.id, .int .i64 s.st, .int .i64 s.en, .slice A' s.data.length c'] 55))
            have hW7 := hW6.alloc (.cells #[.int .u64 s.tr, .int .u64 s.id, .int .i64 s.st, .int .i64 s.en, .slice A' s.data.length c'] 55)
            have hd8 := hd7.alloc (.cells #[.int .u64 s.tr, .int .u64 s.id, .int .i64 s.st, .int .i64 s.en, .slice A' s.data.length c'] 55)
            have hb8 : Below w.heap.size w (w6.alloc (.cells #[.int .u64 s.tr, .int .u64 s.id, .int .i64 s.st, .int .i64 s.en, .slice A' s.data.length c'] 55)) := hb66.alloc hz6 _
            have hLv := Lv.lit1 w6 (spCells s (.slice A' s.data.length c')) 55
            go_wp2_with (at_builtin; refine wpList_append_span _ rfl _ _ rfl (w.heap.size + 1) _ acc s _ rfl hA7 _ rfl hLv hok hd8 hsep hacl' (by simp; omega) ?_)
            intro v9 w9 hA9 hg9
            have hvn : b ≠ [] → v.ownBlock ≠ u6.ownBlock := fun hb e => by
              obtain ⟨k', hk1, hk2⟩ := h.block hb
              have := (hA7.lt k' (e ▸ hk1)).1
              omega
            have hne9 : some w.heap.size ≠ u6.ownBlock := fun e => by
              have := (hA7.lt _ e.symm).1
              omega
            go_wp2_with fail
            refine ⟨⟨k + 1, q, acc ++ [s], by omega, by go_num, by simp [HACL.out], hW7.grown hg9 hne9 hvn, hA9, hb8.grown hg9 hb8.size (fun k' hk' => by have := (hA7.lt _ hk').1; omega), Lib.hid ?_⟩, by simp [intOf]; omega⟩
            rw [HMM.out]
            exact HG.out
      · have hkn : k = n := by omega
        subst hkn
        rw [Nat.sub_self, goS] at HG
        have hWle := hW.le
        clear hlt hacl
        by_cases hp : p < b.length
        · rw [if_pos hp] at HG
          go_wp2_with fail
          refine (bad_false _ _ _ _ _ hW).mono ?_
          rintro e w6 ⟨rfl, rfl⟩
          go_wp2_with fail
          refine (left_any _ _ _ _ _ _ hW).mono ?_
          rintro e w6 ⟨rfl, n6, rfl⟩
          go_wp2_with fail
          refine (place_any _ _ _ _ _ _ (hW.drewN n6)).mono ?_
          rintro e w7 ⟨rfl, n7, rfl⟩
          go_wp2_with fail
          refine (amiss_any _ _).mono ?_
          rintro e w8 ⟨ev, rfl, hsp, hb8⟩
          go_wp2_with fail
          go_ret2
          refine ⟨_, _, rfl, ⟨fun p' hp => ?_, fun l hl => ?_⟩, hB.trans ((below_drewN_left hb8).mono hB.size)⟩
          · rw [HG.out] at hp
            injection hp with hp
            subst hp
            exact ⟨rfl, hsp⟩
          · rw [HG.out] at hl
            cases hl
        · rw [if_neg hp] at HG
          go_wp2_with fail
          refine (bad_false _ _ _ _ _ hW).mono ?_
          rintro e w6 ⟨rfl, rfl⟩
          go_wp2_with fail
          refine (left_any _ _ _ _ _ _ hW).mono ?_
          rintro e w6 ⟨rfl, n6, rfl⟩
          go_wp2_with fail
          go_ret2
          refine ⟨_, _, rfl, ⟨fun p' hp => ?_, fun l hl => ?_⟩, below_drewN hB n6⟩
          · rw [HG.out] at hp
            cases hp
          · rw [HG.out] at hl
            injection hl with hl
            subst hl
            rw [List.append_nil]
            exact ⟨rfl, hA.drewN n6⟩

theorem sget_any (v : Value) (b : List UInt8) (w : World) (h : Bs w v b) (hl : b.length ≤ 140737488355328) :
    Calls Try.prog 63 #[v] w fun e w' => ∃ x er, e = .returned (.tuple #[x, er]) ∧ GetS w' (getS nextMost b) x er ∧ Below w.heap.size w w' :=
  (sget_acc v b w h hl).mono fun _ _ ⟨x, er, he, hG, hb⟩ => ⟨x, er, he, ⟨hG.no, fun l hl => ⟨(hG.yes l hl).1, (hG.yes l hl).2.ss⟩⟩, hb⟩

end Go.Proofs.Ytcpbikogccdknaa

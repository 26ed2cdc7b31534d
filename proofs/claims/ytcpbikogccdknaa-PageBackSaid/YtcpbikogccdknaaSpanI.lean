/-
  CONTRACTS of the document's own Read (of spans' bytes) and Spans (are spans the same?).
-/
import Derived.Test.YtcpbikogccdknaaSpanF
import Derived.Test.YtcpbikogccdknaaMix
namespace Go.Proofs.Ytcpbikogccdknaa
open Go.RowKit

theorem Word8 (g : Nat) (v : Value) (l : List UInt8) (x : Nat × Bool) (w : World) (h : RR w g v l x.1 x.2) :
    Calls Try.prog 32 #[.pointer (some ⟨g, 0, none⟩), .int .i64 8] w fun e w' => e = .returned (.int .u64 (wo8 l x)) ∧ RR w' g v l (wp8 l x).1 (wp8 l x).2 ∧ w.grownBy w' (some g) := Word_all g v l x.1 x.2 8 w h

/-- what Read tells -/
structure ReadS (w : World) (r : Except Nat (List Sn)) (x : Value) (at_ : Int) : Prop where
  no : ∀ p : Nat, r = .error p → at_ = p
  yes : ∀ l, r = .ok l → at_ = -1 ∧ Ss w x l

/-- what Read tells, the spans being the call's own -/
structure ReadA (w : World) (base : Nat) (r : Except Nat (List Sn)) (x : Value) (at_ : Int) : Prop where
  no : ∀ p : Nat, r = .error p → at_ = p
  yes : ∀ l, r = .ok l → at_ = -1 ∧ Acc w (base + 1) x l

set_option maxRecDepth 100000 in
set_option maxHeartbeats 6400000 in
theorem SRead_acc (v : Value) (b : List UInt8) (w : World) (h : Bs w v b) (hl : b.length ≤ 140737488355328) :
    Calls Try.prog 33 #[v] w fun e w' => ∃ x at_, e = .returned (.tuple #[x, .int .i64 at_]) ∧ ReadA w' w.heap.size (getS 65535 b) x at_ ∧ Below w.heap.size w w' := by
  have HB := Lib.hid h
  obtain ⟨A, c, rfl, hc1, hc2, hr⟩ := h
  have hR0 : RR (w.alloc (.cells #[.slice A b.length c, .int .i64 0, .int .i64 (-1)] 66)) w.heap.size (.slice A b.length c) b 0 false :=
    ⟨Blk.new _ _ _, HB.out.alloc _, Nat.zero_le _, fun hb e => by
      obtain ⟨k, hk, hk'⟩ := HB.out.block hb
      rw [e] at hk
      injection hk
      omega, hl⟩
  have hb0 : Below w.heap.size w (w.alloc (.cells #[.slice A b.length c, .int .i64 0, .int .i64 (-1)] 66)) := (Below.refl _ _).alloc (Nat.le_refl _) _
  clear hr
  go_enter Try.func33, Try.ntmps33
  go_wp2_with fail
  refine (Word_all _ _ b _ _ _ _ hR0).mono ?_
  rintro e w2 ⟨rfl, hW2, hg2⟩
  have hB2 : Below w.heap.size w w2 := hb0.grown hg2 hb0.size (by intro k hk; injection hk; omega)
  have hn := wOut2_lt b
  obtain ⟨n, hne⟩ : ∃ n, n = wOut b 0 false 2 := ⟨_, rfl⟩
  rw [← hne] at hn
  have hwt : wrap64 (n : Int) = (n : Int) := IntWalk.wrap64_in _ ⟨by omega, by omega⟩
  rw [← hne]
  have HNE := Lib.hid hne
  clear hne hR0 hg2 hb0
  cases hk : wordOk b 0 false 2 with
  | false =>
    have HK := Lib.hid hk
    have hn0 : n = 0 := by rw [HNE.out, wOut, if_neg (by rw [hk]; simp)]
    have hp0 : wNext b 0 false 2 = 0 := by rw [wNext, if_neg (by rw [hk]; simp)]
    rw [hk, hp0] at hW2
    subst hn0
    have k2 := hW2.blk.cell 2
    simp [badAt] at k2
    clear hk hp0 hwt HNE hn
    go_wp2_with fail
    refine wp_loop_rounds 1 ?_
    rw [rounds_succ]
    go_wp2_with fail
    go_quiet (fail)
    go_wp2_with fail
    go_ret2
    refine ⟨_, _, rfl, ⟨fun p hp => ?_, fun l hl => ?_⟩, below_drewN hB2 _⟩
    · rw [getS, if_neg (by rw [HK.out]; simp)] at hp
      injection hp with hp
      subst hp
      rfl
    · rw [getS, if_neg (by rw [HK.out]; simp)] at hl
      cases hl
  | true =>
    have HK := Lib.hid hk
    rw [hk] at hW2
    clear hk
    go_wp2_with fail
    clear hwt
    go_loopw [6, 7] (fun lv i wr => ∃ (k p : Nat) (acc : List Sn), k ≤ n ∧ i = .int .i64 k ∧ acc.length = k ∧ RR wr w.heap.size (.slice A b.length c) b p false ∧ Acc wr (w.heap.size + 1) lv acc ∧ Below w.heap.size w wr ∧ Hid (getS 65535 b = prep acc (goS 65535 b (n - k) p))) (fun _ i _ => n - (intOf i).toNat)
    case atStart =>
      refine ⟨0, _, [], Nat.zero_le _, rfl, rfl, hW2, Acc.nil _ _, hB2, Lib.hid ?_⟩
      rw [getS, if_pos HK.out, ← HNE.out]
      simp only [Nat.sub_zero]
      cases goS 65535 b n (wNext b 0 false 2) <;> rfl
    case round =>
      obtain ⟨k, p, acc, hk, rfl, hacl, hW, hA, hB, HG⟩ := hrel
      clear hW2 hB2
      have hWle := hW.le
      by_cases hlt : k < n
      · obtain ⟨m, hm⟩ : ∃ m, n - k = m + 1 := ⟨n - k - 1, by omega⟩
        rw [hm] at HG
        have hm' : n - (k + 1) = m := by omega
        have HMM := Lib.hid hm'
        have HACL := Lib.hid hacl
        have hacl' : acc.length ≤ 100000 := by omega
        have k1 := hW.blk.cell 1
        simp at k1
        have hWlt := hW.blk.lt
        have hzB := hB.size
        clear hm hm' hacl
        go_wp2_with fail
        refine (Word8 _ _ b (p, false) _ hW).mono ?_
        rintro e x1 ⟨rfl, y1, g1⟩
        clear k1
        go_wp2_with fail
        refine (Word8 _ _ b _ _ y1).mono ?_
        rintro e x2 ⟨rfl, y2, g2⟩
        go_wp2_with fail
        refine (Word8 _ _ b _ _ y2).mono ?_
        rintro e x3 ⟨rfl, y3, g3⟩
        go_wp2_with fail
        refine (Word8 _ _ b _ _ y3).mono ?_
        rintro e x4 ⟨rfl, y4, g4⟩
        go_wp2_with fail
        refine (Text_all _ _ b _ _ _ _ y4).mono ?_
        rintro e w4 ⟨d, rfl, hd4, hW4, g5⟩
        have hg14 := grown_trans (grown_trans (grown_trans g1 g2) g3) g4
        have hg4 := grown_trans hg14 g5
        have hA4 := hA.grown hg4 (by omega)
        have hB4 : Below w.heap.size w w4 := hB.grown hg4 hzB (by intro q hq; injection hq; omega)
        have hz14 := hg14.size
        have hsep : d.ownBlock = none ∨ d.ownBlock ≠ u6.ownBlock := by
          cases hdo : d.ownBlock with
          | none => exact .inl rfl
          | some q =>
            right
            intro e
            have h1 := (hA.lt q e.symm).2
            have h2 := hd4.ge q hdo
            omega
        have hd5 : Own w4 (w.heap.size + 1) 5 d (rdSpan 65535 b (p, false)).data := hd4.lower (by omega)
        have hok := rdSpan_ok 65535 b (p, false)
        have hW5 : RR w4 w.heap.size (.slice A b.length c) b (rdNext 65535 b (p, false)).1 (rdNext 65535 b (p, false)).2 := hW4
        clear hd4 hA hB hg4 hW hW4 y1 y2 y3 y4 g1 g2 g3 g4 g5 hg14 hz14
        cases hbd : (rdNext 65535 b (p, false)).2 with
        | true =>
          rw [hbd] at hW5
          rw [goS_bad hbd] at HG
          generalize (rdNext 65535 b (p, false)).1 = q at *
          have k2 := hW5.blk.cell 2
          simp [badAt] at k2
          clear hbd hsep hA4 hok hd5
          go_wp2_with fail
          go_quiet (fail)
          go_wp2_with fail
          go_ret2
          refine ⟨_, _, rfl, ⟨fun p' hp => ?_, fun l hl => ?_⟩, below_drewN hB4 _⟩
          · rw [HG.out] at hp
            injection hp with hp
            subst hp
            rfl
          · rw [HG.out] at hl
            cases hl
        | false =>
          rw [hbd] at hW5
          obtain ⟨A', c', hdv, hdf⟩ := hd5.form
          have k2 := hW5.blk.cell 2
          simp [badAt] at k2
          subst hdv
          obtain ⟨s, hs⟩ : ∃ s, s = rdSpan 65535 b (p, false) := ⟨_, rfl⟩
          have hs1 : (wo8 b (p, false) : Int) = s.tr := by rw [hs]; rfl
          have hs2 : (wo8 b (wp8 b (p, false)) : Int) = s.id := by rw [hs]; rfl
          have hs3 : wrap64 (wo8 b (wp8 b (wp8 b (p, false))) : Int) = s.st := by rw [hs]; rfl
          have hs4 : wrap64 (wo8 b (wp8 b (wp8 b (wp8 b (p, false)))) : Int) = s.en := by rw [hs]; rfl
          rw [← hs] at hd5 hok hdf hsep ⊢
          have hb5 : Below w.heap.size w (w4.alloc (.cells #[.int .u64 s.tr, .int .u64 s.id, .int .i64 s.st, .int .i64 s.en, .slice A' s.data.length c'] 55)) := hB4.alloc hB4.size _
          have hBl5 := Blk.new w4 55 #[.int .u64 s.tr, .int .u64 s.id, .int .i64 s.st, .int .i64 s.en, .slice A' s.data.length c']
          have hW6 : RR (w4.alloc (.cells #[.int .u64 s.tr, .int .u64 s.id, .int .i64 s.st, .int .i64 s.en, .slice A' s.data.length c'] 55)) w.heap.size (.slice A b.length c) b (rdNext 65535 b (p, false)).1 false := hW5.below ((Below.refl w4.heap.size w4).alloc (Nat.le_refl _) _)
          have hA5 := hA4.below ((Below.refl w4.heap.size w4).alloc (Nat.le_refl _) (.cells #[.int .u64 s.tr, .int .u64 s.id, .int .i64 s.st, .int .i64 s.en, .slice A' s.data.length c'] 55))
          have hd6 := hd5.alloc (.cells #[.int .u64 s.tr, .int .u64 s.id, .int .i64 s.st, .int .i64 s.en, .slice A' s.data.length c'] 55)
          have hV : SV (w4.alloc (.cells #[.int .u64 s.tr, .int .u64 s.id, .int .i64 s.st, .int .i64 s.en, .slice A' s.data.length c'] 55)) (.agg #[.int .u64 s.tr, .int .u64 s.id, .int .i64 s.st, .int .i64 s.en, .slice A' s.data.length c']) s := ⟨hok, _, rfl, hd6.bs⟩
          cases hm : mayB s with
          | false =>
            rw [goS_may hbd (by rw [← hs]; exact hm)] at HG
            have HMS := Lib.hid hm
            clear hbd hm hsep hA4 hA5 hs hd5 hd6 hdf hW5 hB4 hBl5 hW6
            go_wp2_with fail
            refine (May_any _ s _ hV).mono ?_
            rintro e w6 ⟨rfl, hb6⟩
            rw [HMS.out]
            go_wp2_with fail
            go_ret2
            refine ⟨_, _, rfl, ⟨fun p' hp => ?_, fun l hl => ?_⟩, hb5.trans (hb6.mono hb5.size)⟩
            · rw [HG.out] at hp
              injection hp with hp
              subst hp
              rfl
            · rw [HG.out] at hl
              cases hl
          | true =>
            rw [goS_go hbd (by rw [← hs]; exact hm), ← hs, prep_prep] at HG
            have HMS := Lib.hid hm
            clear hbd hm hA4 hs hd5 hdf hW5 hB4
            generalize (rdNext 65535 b (p, false)).1 = q at *
            go_wp2_with fail
            refine (May_any _ s _ hV).mono ?_
            rintro e w6 ⟨rfl, hb6⟩
            rw [HMS.out]
            have hb66 := hb5.trans (hb6.mono hb5.size)
            have hBl6 := hBl5.below hb6 hBl5.lt
            have hW7 := hW6.below hb6
            have hA6 := hA5.below hb6
            have hd7 := hd6.below hb6
            have d0 := hBl6.cell 0
            have d1 := hBl6.cell 1
            have d2 := hBl6.cell 2
            have d3 := hBl6.cell 3
            have d4 := hBl6.cell 4
            simp at d0 d1 d2 d3 d4
            have hz6 := hb66.size
            have hl6 := hW7.blk.lt
            clear hb5 hb6 hBl6 hBl5 hW6 hA5 hd6 hV hs1 hs2 hs3 hs4 k2
            have hA7 := hA6.below ((Below.refl w6.heap.size w6).alloc (Nat.le_refl _) (.cells #[.int .u64 s.tr, .int .u64 s.id, .int .i64 s.st, .int .i64 s.en, .slice A' s.data.length c'] 55))
            have hW8 : RR (w6.alloc (.cells #[.int .u64 s.tr, .int .u64 s.id, .int .i64 s.st, .int .i64 s.en, .slice A' s.data.length c'] 55)) w.heap.size (.slice A b.length c) b q false := hW7.below ((Below.refl w6.heap.size w6).alloc (Nat.le_refl _) _)
            have hd8 := hd7.alloc (.cells #[.int .u64 s.tr, .int .u64 s.id, .int .i64 s.st, .int .i64 s.en, .slice A' s.data.length c'] 55)
            have hb8 : Below w.heap.size w (w6.alloc (.cells #[.int .u64 s.tr, .int .u64 s.id, .int .i64 s.st, .int .i64 s.en, .slice A' s.data.length c'] 55)) := hb66.alloc hz6 _
            have hLv := Lv.lit1 w6 (spCells s (.slice A' s.data.length c')) 55
            go_wp2_with (at_builtin; refine wpList_append_span _ rfl _ _ rfl (w.heap.size + 1) _ acc s _ rfl hA7 _ rfl hLv hok hd8 hsep hacl' (by simp; omega) ?_)
            intro v9 w9 hA9 hg9
            have hvn : b ≠ [] → (Value.slice A b.length c).ownBlock ≠ u6.ownBlock := fun hb e => by
              obtain ⟨k', hk1, hk2⟩ := HB.out.block hb
              have := (hA7.lt k' (e ▸ hk1)).1
              omega
            have hne9 : some w.heap.size ≠ u6.ownBlock := fun e => by
              have := (hA7.lt _ e.symm).1
              omega
            go_wp2_with fail
            refine ⟨⟨k + 1, q, acc ++ [s], by omega, by go_num, by simp [HACL.out], hW8.grown hg9 hne9 hvn, hA9, hb8.grown hg9 hb8.size (fun k' hk' => by have := (hA7.lt _ hk').1; omega), Lib.hid ?_⟩, by simp [intOf]; omega⟩
            rw [HMM.out]
            exact HG.out
      · have hkn : k = n := by omega
        subst hkn
        rw [Nat.sub_self, goS] at HG
        have k1 := hW.blk.cell 1
        have k2 := hW.blk.cell 2
        simp [badAt] at k1 k2
        clear hlt hacl
        by_cases hp : p < b.length
        · rw [if_pos hp] at HG
          go_wp2_with fail
          go_quiet (fail)
          go_wp2_with fail
          go_ret2
          refine ⟨_, _, rfl, ⟨fun p' hp => ?_, fun l hl => ?_⟩, below_drewN hB _⟩
          · rw [HG.out] at hp
            injection hp with hp
            subst hp
            rfl
          · rw [HG.out] at hl
            cases hl
        · rw [if_neg hp] at HG
          go_wp2_with fail
          go_ret2
          refine ⟨_, _, rfl, ⟨fun p' hp => ?_, fun l hl => ?_⟩, hB⟩
          · rw [HG.out] at hp
            cases hp
          · rw [HG.out] at hl
            injection hl with hl
            subst hl
            rw [List.append_nil]
            exact ⟨rfl, hA⟩

theorem SRead_any (v : Value) (b : List UInt8) (w : World) (h : Bs w v b) (hl : b.length ≤ 140737488355328) :
    Calls Try.prog 33 #[v] w fun e w' => ∃ x at_, e = .returned (.tuple #[x, .int .i64 at_]) ∧ ReadS w' (getS 65535 b) x at_ ∧ Below w.heap.size w w' :=
  (SRead_acc v b w h hl).mono fun _ _ ⟨x, at_, he, hG, hb⟩ => ⟨x, at_, he, ⟨hG.no, fun l hl => ⟨(hG.yes l hl).1, (hG.yes l hl).2.ss⟩⟩, hb⟩

theorem sameB_refl (a : Sn) : sameB a a = true := by simp [sameB]

set_option maxRecDepth 100000 in
set_option maxHeartbeats 3200000 in
/-- two slices of the same spans -/
theorem Spans_same (v v' : Value) (l : List Sn) (w : World) (h : Ss w v l) (h' : Ss w v' l) :
    Calls Try.prog 24 #[v, v'] w fun e w' => e = .returned (.bool true) ∧ Below w.heap.size w w' := by
  have SL := Lib.hid h
  have SR := Lib.hid h'
  obtain ⟨A, c, rfl, hc1, hc2⟩ := h.form
  obtain ⟨A', c', rfl, hc1', hc2'⟩ := h'.form
  clear h h'
  go_enter Try.func24, Try.ntmps24
  go_wp2_with fail
  go_loopw [5] (fun i wr => ∃ k : Nat, k ≤ l.length ∧ i = .int .i64 k ∧ Below w.heap.size w wr) (fun i _ => l.length - (intOf i).toNat)
  case atStart => exact ⟨0, Nat.zero_le _, rfl, Below.refl _ _⟩
  case round =>
    obtain ⟨k, hk, rfl, hB⟩ := hrel
    by_cases hlt : k < l.length
    · obtain ⟨s, hks⟩ : ∃ s, l[k]? = some s := ⟨_, List.getElem?_eq_getElem hlt⟩
      obtain ⟨g, o, d, rfl, hg, c0, c1, c2, c3, c4, hdd, hok⟩ := (SL.out.below hB).cells hks
      obtain ⟨g', o', d', rfl, hg', x0, x1, x2, x3, x4, hdd', hok'⟩ := (SR.out.below hB).cells hks
      have r0 : ∀ u, Below wr.heap.size wr u → u.cell? ⟨g, o + k * 5, none⟩ = some (.int .u64 s.tr) := fun u h => (h.cell hg).trans c0
      have r1 : ∀ u, Below wr.heap.size wr u → u.cell? ⟨g, o + k * 5 + 1, none⟩ = some (.int .u64 s.id) := fun u h => (h.cell hg).trans c1
      have r2 : ∀ u, Below wr.heap.size wr u → u.cell? ⟨g, o + k * 5 + 2, none⟩ = some (.int .i64 s.st) := fun u h => (h.cell hg).trans c2
      have r3 : ∀ u, Below wr.heap.size wr u → u.cell? ⟨g, o + k * 5 + 3, none⟩ = some (.int .i64 s.en) := fun u h => (h.cell hg).trans c3
      have r4 : ∀ u, Below wr.heap.size wr u → u.cell? ⟨g, o + k * 5 + 4, none⟩ = some d := fun u h => (h.cell hg).trans c4
      have t0 : ∀ u, Below wr.heap.size wr u → u.cell? ⟨g', o' + k * 5, none⟩ = some (.int .u64 s.tr) := fun u h => (h.cell hg').trans x0
      have t1 : ∀ u, Below wr.heap.size wr u → u.cell? ⟨g', o' + k * 5 + 1, none⟩ = some (.int .u64 s.id) := fun u h => (h.cell hg').trans x1
      have t2 : ∀ u, Below wr.heap.size wr u → u.cell? ⟨g', o' + k * 5 + 2, none⟩ = some (.int .i64 s.st) := fun u h => (h.cell hg').trans x2
      have t3 : ∀ u, Below wr.heap.size wr u → u.cell? ⟨g', o' + k * 5 + 3, none⟩ = some (.int .i64 s.en) := fun u h => (h.cell hg').trans x3
      have t4 : ∀ u, Below wr.heap.size wr u → u.cell? ⟨g', o' + k * 5 + 4, none⟩ = some d' := fun u h => (h.cell hg').trans x4
      have hb0 : (0 : Int) ≤ (k : Int) := by omega
      have hb1 : (k : Int) < (l.length : Int) := by omega
      have V1 : SV wr.drew (.agg #[.int .u64 s.tr, .int .u64 s.id, .int .i64 s.st, .int .i64 s.en, d]) s := ⟨hok, d, rfl, hdd⟩
      have V2 : SV wr.drew (.agg #[.int .u64 s.tr, .int .u64 s.id, .int .i64 s.st, .int .i64 s.en, d']) s := ⟨hok, d', rfl, hdd'⟩
      clear c0 c1 c2 c3 c4 x0 x1 x2 x3 x4 hks hdd hdd'
      go_wp2_with fail
      refine wp_region_mix [(0, false), (1, false), (2, false), (3, false), (4, false), (5, false), (6, false), (7, false), (8, true), (9, true)] (fun u => Below wr.heap.size wr u) (by kernel_rfl) (by kernel_rfl) (by kernel_rfl) rfl (Below.refl _ _).drew ?_
      repeat
        (refine mix_read (o := ⟨_, _, _, _, _, _⟩) (v := ?_) rfl (by rfl) (fun w' hS => ?_) ?_
         rotate_left
         go_simp
         with_reducible rfl
         try simp only [Act.put, List.setIfInBounds_toArray, List.set_cons_zero, List.set_cons_succ])
      refine mix_step (o := ⟨_, _, _, _, _, _⟩) rfl (fun K hK => ?_)
      go_simp
      refine (Same_any _ _ s s _ V1 V2).mono ?_
      rintro e u1 ⟨rfl, hu1⟩
      rw [sameB_refl]
      have hU : Below wr.heap.size wr u1 := ⟨hu1.os, hu1.tape, hu1.output, hu1.size, hu1.block⟩
      refine hK.out _ _ hU ?_
      clear hK K
      try simp only [Act.put, List.setIfInBounds_toArray, List.set_cons_zero, List.set_cons_succ]
      repeat
        (refine mix_step (o := ⟨_, _, _, _, _, _⟩) rfl (fun K hK => ?_)
         go_simp
         refine hK.out _ _ hU ?_
         clear hK K)
      refine mix_done ?_
      clear r0 r1 r2 r3 r4 t0 t1 t2 t3 t4
      go_wp2_with fail
      refine ⟨⟨k + 1, by omega, by go_num, hB.trans (hU.mono hB.size)⟩, by simp [intOf]; omega⟩
    · go_wp2_with fail
      go_ret
      exact ⟨rfl, hB⟩

end Go.Proofs.Ytcpbikogccdknaa

/-
  THE DOCUMENT's FILTER: the CONTRACT of New. Conditions: what it says.
-/
import Derived.Test.YtdbgmobgbnfdbaaBlJ
namespace Go.Proofs.Ytdbgmobgbnfdbaa
open Go.RowKit
set_option maxRecDepth 100000

/-- k rows are made -/
structure DNw (w : World) (g n hs : Nat) (v : Value) (q : Nat → Nat) (k : Nat) (W : World) : Prop where
  blk : Blk W g 49 #[.int .i64 (n : Int), .int .i64 (hs : Int), v]
  row : OwnL 1 W w.heap.size 50 v (rowsC k n q)
  bits : ∀ i, i < k → DRow W (q i) n fun _ => false
  gg : w.heap.size ≤ g
  vg : ∀ z, v.ownBlock = some z → z ≠ g
  qg : ∀ i, i < k → q i ≠ g
  qv : ∀ i, i < k → v.ownBlock ≠ some (q i)
  qq : ∀ i j, i < k → j < k → q i = q j → i = j
  qge : ∀ i, i < k → w.heap.size ≤ q i
  below : Below w.heap.size w W

set_option maxHeartbeats 1600000 in
theorem DNew_any {s n hs : Nat} (w : World) (hs1 : 1 ≤ s) (hs2 : s ≤ 16) (hn : n ≤ 4096) : Calls Try.prog 9 #[.int .i64 (s : Int), .int .i64 (n : Int), .int .i64 (hs : Int)] w fun e w' => ∃ g r c q, e = .returned (.pointer (some ⟨g, 0, none⟩)) ∧ DBq w' g r c q s n hs (fun _ => false) ∧ Below w.heap.size w w' ∧ w.heap.size ≤ g ∧ w.heap.size ≤ r ∧ ∀ i, i < s → w.heap.size ≤ q i := by
  have HI : Hid (DNw w w.heap.size n hs (.slice none 0 0) (fun _ => 0) 0 (w.alloc (.cells #[.int .i64 (n : Int), .int .i64 (hs : Int), .slice none 0 0] 49))) := Lib.hid
    ⟨Blk.new w _ _, OwnL.nil _ _ _ _, fun i hi => absurd hi (by omega), Nat.le_refl _, fun z hz => by simp [Value.ownBlock] at hz, fun i hi => absurd hi (by omega), fun i hi => absurd hi (by omega), fun i _ hi => absurd hi (by omega), fun i hi => absurd hi (by omega), (Below.refl _ w).alloc (Nat.le_refl _) _⟩
  have hmk := run_make_bools n (by omega)
  go_enter Try.func9, Try.ntmps9
  go_wp2_with fail
  generalize hg : w.heap.size = g at *
  generalize w.alloc (.cells #[.int .i64 (n : Int), .int .i64 (hs : Int), .slice none 0 0] 49) = w1 at *
  go_loopg [8] s (fun gk iv wr => ∃ (k : Nat) (v : Value) (q : Nat → Nat), k + gk = s ∧ iv = .int .i64 (k : Int) ∧ Hid (DNw w g n hs v q k wr))
  case atStart => exact ⟨0, _, _, by omega, rfl, HI⟩
  case round =>
    obtain ⟨k, v, q, hk, rfl, HM⟩ := hrel
    by_cases hlt : k < s
    · obtain ⟨gk1, hgk1⟩ : ∃ x, gk = x + 1 := ⟨gk - 1, by omega⟩
      have hgl := HM.out.blk.lt
      have k2 := HM.out.blk.cell 2
      simp at k2
      have hS : Hid (∀ u, Apt (fun z => v.ownBlock = some z) wr u → u.cell? ⟨g, 2, none⟩ = some v) := Lib.hid fun u hu => (World.cell?_of_block (hu.block g hgl fun e => HM.out.vg g e rfl)).trans k2
      clear k2
      go_wp2_with fail
      refine wp_region_mix3 11 [(0, 0), (1, 0), (2, 0), (3, 0), (4, 0), (5, 0), (6, 1), (7, 1), (8, 1), (9, 0), (10, 0), (11, 2)] (fun u => Apt (fun z => v.ownBlock = some z) wr u) (by kernel_rfl) (by kernel_rfl) (by decide +kernel) rfl (Apt.of_below (Below.refl _ _).drew) ?_
      repeat
        (refine mix3_read (o := ⟨_, _, _, _, _, _⟩) (v := ?_) rfl (by rfl) (fun w' hU => ?_) ?_
         rotate_left
         have hU' := hS.out _ hU
         go_simp
         with_reducible rfl
         try simp only [Act.put, List.setIfInBounds_toArray, List.set_cons_zero, List.set_cons_succ])
      refine mix3_step (o := ⟨_, _, _, _, _, _⟩) rfl (fun K hK => ?_)
      go_simp
      have hw2 : ∃ w2, w2 = (wr.alloc (.cells (madeCells #[.bool false] n) 4)).drew ∧ Below wr.heap.size wr w2 ∧ w2.heap.size = wr.heap.size + 1 ∧ DRow w2 wr.heap.size n (fun _ => false) := ⟨_, rfl, ((Below.refl _ wr).alloc (Nat.le_refl _) _).drew, by simp, by
        have := ownL_zeros wr 0 n (.bool false) 4 (by omega) (Nat.zero_le _)
        unfold DRow
        have e : ((List.range n).map fun p => bC ((fun _ => false) p)) = List.replicate n [.bool false] := by
          refine List.ext_getElem? fun i => ?_
          rw [List.getElem?_map, List.getElem?_replicate]
          rcases Nat.lt_or_ge i n with h | h
          · rw [List.getElem?_range h, if_pos h]
            rfl
          · rw [List.getElem?_eq_none (by simpa using h), if_neg (by omega)]
            rfl
        rw [e]
        exact this⟩
      obtain ⟨w2, hw2, hb2, hz2, hr2⟩ := hw2
      rw [← hw2]
      clear hw2
      refine hK.out _ _ (Apt.of_below hb2) ?_
      clear hK K
      try simp only [Act.put, List.setIfInBounds_toArray, List.set_cons_zero, List.set_cons_succ]
      refine mix3_step (o := ⟨_, _, _, _, _, _⟩) rfl (fun K hK => ?_)
      go_simp
      have hb3 : Below w2.heap.size w2 (w2.alloc (.cells #[.slice (some ⟨wr.heap.size, 0, none⟩) n n] 50)) := (Below.refl _ w2).alloc (Nat.le_refl _) _
      have hlit := Lv.lit1 w2 [.slice (some ⟨wr.heap.size, 0, none⟩) n n] 50
      have hz3 : (w2.alloc (.cells #[.slice (some ⟨wr.heap.size, 0, none⟩) n n] 50)).heap.size = w2.heap.size + 1 := by simp
      have hr3 := hr2.kept (grown_of_below hb3 none) (by simp)
      refine hK.out _ _ (Apt.of_below (hb2.trans (hb3.mono hb2.size))) ?_
      clear hK K
      try simp only [Act.put, List.setIfInBounds_toArray, List.set_cons_zero, List.set_cons_succ]
      replace hlit : Lv 1 (w2.alloc (.cells #[.slice (some ⟨wr.heap.size, 0, none⟩) n n] 50)) (.slice (some ⟨w2.heap.size, 0, none⟩) 1 1) [[.slice (some ⟨wr.heap.size, 0, none⟩) n n]] := hlit
      rw [hz2] at hlit
      have hbA : Below wr.heap.size wr (w2.alloc (.cells #[.slice (some ⟨wr.heap.size, 0, none⟩) n n] 50)) := hb2.trans (hb3.mono hb2.size)
      generalize w2.alloc (.cells #[.slice (some ⟨wr.heap.size, 0, none⟩) n n] 50) = w3 at *
      refine mix3_step (o := ⟨_, _, _, _, _, _⟩) rfl (fun K hK => ?_)
      refine step_append_elems boolsT1 rfl _ _ rfl rfl (HM.out.row.below hbA) rfl hlit (by intro y hy; simp at hy; subst hy; simp [Value.oneCell']) (by simp only [maxLen, rowsC_length, List.length_singleton]; omega) (by simp only [rowsC_length, List.length_singleton]; omega) (Nat.le_trans HM.out.below.size hbA.size) ?_
      intro v6 w6 ho6 hg6 hv6
      replace hg6 : w3.grownBy w6 v.ownBlock := hg6
      replace hv6 : v6.ownBlock = v.ownBlock ∨ v6.ownBlock = some w3.heap.size := hv6
      have hap6 : Apt (fun z => v.ownBlock = some z) wr w6 := (Apt.of_below hbA).trans (Apt.of_grown hg6 fun z hz => hz)
      refine hK.out _ _ hap6 ?_
      clear hK K
      try simp only [Act.put, List.setIfInBounds_toArray, List.set_cons_zero, List.set_cons_succ]
      repeat
        (refine mix3_read (o := ⟨_, _, _, _, _, _⟩) (v := ?_) rfl (by rfl) (fun w' hU => ?_) ?_
         rotate_left
         have hU' := hS.out _ hU
         go_simp
         with_reducible rfl
         try simp only [Act.put, List.setIfInBounds_toArray, List.set_cons_zero, List.set_cons_succ])
      have hB6 : Blk w6 g 49 #[.int .i64 (n : Int), .int .i64 (hs : Int), v] := (hap6.block g hgl fun e => HM.out.vg g e rfl).trans HM.out.blk
      have hvlt : ∀ z, v.ownBlock = some z → z < wr.heap.size := fun z hz => HM.out.row.lt z hz
      have hv6' : ∀ z, v6.ownBlock = some z → v.ownBlock = some z ∨ z = wr.heap.size + 2 := fun z hz => by
        rcases hv6 with h | h
        · exact .inl (h.symm.trans hz)
        · rw [hz] at h
          injection h with h
          exact .inr (by omega)
      have k62 := hB6.cell 2
      have f62 := hB6.frozen 2
      simp at k62
      have hB7 : Blk (w6.setCell ⟨g, 2, none⟩ v6) g 49 #[.int .i64 (n : Int), .int .i64 (hs : Int), v6] := by
        have := Blk.set_ hB6 2 v6
        simpa using this
      have hgs := grown_set w6 g 2 v6
      have hqlt : ∀ i, i < k → q i < wr.heap.size := fun i hi => (HM.out.bits i hi).lt
      have hN : DNw w g n hs v6 (fun i => if i = k then wr.heap.size else q i) (k + 1) (w6.setCell ⟨g, 2, none⟩ v6) := by
        refine ⟨hB7, ?_, fun i hi => ?_, HM.out.gg, fun z hz e => ?_, fun i hi => ?_, fun i hi e => ?_, fun i j hi hj e => ?_, fun i hi => ?_, ?_⟩
        · have e : rowsC (k + 1) n (fun i => if i = k then wr.heap.size else q i) = rowsC k n q ++ [[.slice (some ⟨wr.heap.size, 0, none⟩) n n]] := by
            unfold rowsC
            rw [List.range_succ, List.map_append]
            congr 1
            · refine List.map_congr_left fun i hi => ?_
              have := List.mem_range.1 hi
              show [Value.slice (some ⟨if i = k then wr.heap.size else q i, 0, none⟩) n n] = _
              rw [if_neg (by omega)]
            · simp
          rw [e]
          refine ho6.kept hgs ?_
          cases hv : v6.ownBlock with
          | none => exact .inl rfl
          | some z =>
            refine .inr fun e => ?_
            injection e with e
            subst e
            rcases hv6' z hv with h | h
            · exact HM.out.vg z h rfl
            · omega
        · by_cases hik : i = k
          · subst hik
            simp only [if_true]
            refine ((hr3.kept hg6 fun e => ?_).kept hgs fun e => ?_)
            · have := hvlt _ e
              omega
            · injection e with e
              omega
          · have hi' : i < k := by omega
            simp only [if_neg hik]
            refine ((HM.out.bits i hi').apt hap6 fun e => HM.out.qv i hi' e).kept hgs fun e => ?_
            injection e with e
            exact HM.out.qg i hi' e.symm
        · subst e
          rcases hv6' z hz with h | h
          · exact HM.out.vg z h rfl
          · omega
        · by_cases hik : i = k
          · simp only [if_pos hik]
            omega
          · simp only [if_neg hik]
            exact HM.out.qg i (by omega)
        · by_cases hik : i = k
          · simp only [if_pos hik] at e
            rcases hv6' _ e with h | h
            · have := hvlt _ h
              omega
            · omega
          · simp only [if_neg hik] at e
            rcases hv6' _ e with h | h
            · exact HM.out.qv i (by omega) h
            · have := hqlt i (by omega)
              omega
        · by_cases hik : i = k
          · by_cases hjk : j = k
            · omega
            · simp only [if_pos hik, if_neg hjk] at e
              have := hqlt j (by omega)
              omega
          · by_cases hjk : j = k
            · simp only [if_neg hik, if_pos hjk] at e
              have := hqlt i (by omega)
              omega
            · simp only [if_neg hik, if_neg hjk] at e
              exact HM.out.qq i j (by omega) (by omega) e
        · by_cases hik : i = k
          · simp only [if_pos hik]
            exact HM.out.below.size
          · simp only [if_neg hik]
            exact HM.out.qge i (by omega)
        · exact (below_apt HM.out.below hap6 (fun z hz => HM.out.row.ge z hz) HM.out.below.size).grown hgs (Nat.le_trans HM.out.below.size hap6.size) (by intro z hz; injection hz with hz; have := HM.out.gg; omega)
      have HN := Lib.hid hN
      clear hN hB6 hB7 hgs hqlt hap6 hg6 hv6 hv6' hvlt ho6 hbA hlit hr3 hb3 hz3 hr2 hz2 hb2
      obtain ⟨A6, c6, hv6f, _, _⟩ := HN.out.row.lv.form
      rw [rowsC_length] at hv6f
      subst hv6f
      refine mix3_store (o := ⟨_, _, _, _, _, _⟩) rfl (fun K hK => ?_)
      go_simp
      refine hK.out _ _ ?_
      clear hK K
      refine mix3_done ?_
      generalize w6.setCell ⟨g, 2, none⟩ (.slice A6 (k + 1) c6) = w7 at *
      clear k62 f62 hS hgl
      go_wp2_with fail
      go_roundg gk1
      case measure => omega
      case rel => exact ⟨k + 1, _, _, by omega, by go_num, HN⟩
    · have hkn : k = s := by omega
      subst hkn
      obtain ⟨hv, _⟩ | ⟨r, c, rfl, hc1, hc2, hrg, hrl, _⟩ := HM.out.row.at_
      · have := congrArg (fun v => match v with | Value.slice _ n _ => n | _ => 0) hv
        have h2 := HM.out.row.lv.form
        obtain ⟨A, c, h2, _⟩ := h2
        rw [hv] at h2
        injection h2 with _ h2
        rw [rowsC_length] at h2
        omega
      have HM' := HM.out
      rw [rowsC_length] at HM'
      have HD : Hid (DBq wr g r c q k n hs (fun _ => false)) := Lib.hid ⟨HM'.blk, HM'.row.lower (Nat.zero_le _), HM'.bits, fun e => HM'.vg r rfl e.symm, HM'.qg, fun i hi e => HM'.qv i hi (by simp [Value.ownBlock, e]), HM'.qq⟩
      clear hlt
      go_wp2_with fail
      go_ret
      exact ⟨g, r, c, q, rfl, HD.out, hg ▸ HM.out.below, HM.out.gg, hrg, HM.out.qge⟩
end Go.Proofs.Ytdbgmobgbnfdbaa

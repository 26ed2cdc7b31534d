/-
  THE WALK OF tankardlaw01.WordReads: for all bytes and all asks it returns true, and nothing that was there has turned.
-/
import Derived.Test.YtkffefbljmkdjaaWordH
import Derived.Test.YtkffefbljmkdjaaMix
namespace Go.Proofs.Ytkffefbljmkdjaa
open Go.RowKit

/-- n asks stand from the address A on -/
def AsksAt (w : World) (A : Option Addr) (n : Nat) : Prop := ∀ i, i < n → ∃ (g o : Nat) (b : Bool) (k m : Int), A = some ⟨g, o, none⟩ ∧ w.cell? ⟨g, o + i * 3, none⟩ = some (.bool b) ∧ w.cell? ⟨g, o + i * 3 + 1, none⟩ = some (.int .i64 k) ∧ w.cell? ⟨g, o + i * 3 + 2, none⟩ = some (.int .i64 m)

set_option maxRecDepth 100000 in
set_option maxHeartbeats 400000 in
theorem reads_long (l : List UInt8) (b : Value) (A : Option Addr) (n c : Nat) (w : World) (hb : Bs w b l) (hl : l.length ≤ 9223372036854775807) (hn : n ≤ 9223372036854775807) (h : 3000 < l.length ∨ 100 < n) :
    Calls Try.prog 4 #[b, .slice A n c] w fun e w' => e = .returned (.bool true) ∧ Below w.heap.size w w' := by
  obtain ⟨A', c', rfl, hc1, hc2, hr⟩ := hb
  by_cases h1 : 3000 < l.length
  · clear h
    go_enter Try.func4, Try.ntmps4
    go_wp2_with (go_at_call 6; refine (up_any _).mono ?_; rintro e w1 ⟨rfl, hb1⟩)
    go_ret
    exact ⟨rfl, hb1⟩
  · have h2 : 100 < n := by omega
    clear h
    go_enter Try.func4, Try.ntmps4
    go_wp2_with (go_at_call 6; refine (up_any _).mono ?_; rintro e w1 ⟨rfl, hb1⟩)
    go_ret
    exact ⟨rfl, hb1⟩

set_option maxRecDepth 100000 in
set_option maxHeartbeats 1600000 in
theorem reads_main (l : List UInt8) (b : Value) (A : Option Addr) (n c : Nat) (w : World) (hb : Bs w b l) (ha : AsksAt w A n) (hl : l.length ≤ 3000) (hn : n ≤ 100) :
    Calls Try.prog 4 #[b, .slice A n c] w fun e w' => e = .returned (.bool true) ∧ Below w.heap.size w w' := by
  have hb' := hb
  obtain ⟨A', c', rfl, hc1, hc2, hr⟩ := hb'
  have HA := Lib.hid ha
  clear ha
  go_enter Try.func4, Try.ntmps4
  go_wp2_with fail
  refine (up_any _).mono ?_
  rintro e w1 ⟨rfl, hb1⟩
  have hz1 := hb1.size
  go_wp2_with fail
  refine (read_any _ l _ (hb.below hb1)).mono ?_
  rintro e w2 ⟨rfl, hW2, hb2⟩
  have hz2 := hb2.size
  have hlt2 := hW2.blk.lt
  have hbA : Below w.heap.size w w2 := hb1.trans (hb2.mono hz1)
  go_wp2_with fail
  have hR2 : RR (w2.alloc (.cells #[.slice A' l.length c', .int .i64 0, .int .i64 (-1)] 41)) w2.heap.size (.slice A' l.length c') l 0 false :=
    ⟨Blk.new _ _ _, (hb.below hbA).alloc _, Nat.zero_le _, fun hl e => by
      obtain ⟨k, hk, hlt⟩ := (hb.below hbA).block hl
      rw [hk] at e
      injection e with e
      omega, by omega⟩
  have hW2' := hW2.alloc (.cells #[.slice A' l.length c', .int .i64 0, .int .i64 (-1)] 41)
  have hbA2 := hbA.alloc (by omega) (.cells #[.slice A' l.length c', .int .i64 0, .int .i64 (-1)] 41)
  go_loopw [8] (fun i wr => ∃ (j p : Nat) (bad : Bool), j ≤ n ∧ i = .int .i64 j ∧ WR wr w1.heap.size (.slice A' l.length c') l p bad ∧ RR wr w2.heap.size (.slice A' l.length c') l p bad ∧ Below w.heap.size w wr) (fun i _ => n - (intOf i).toNat)
  case atStart => exact ⟨0, 0, false, Nat.zero_le _, rfl, hW2', hR2, hbA2⟩
  case round =>
    obtain ⟨j, p, bad, hj, rfl, hW, hR, hB⟩ := hrel
    clear hW2 hR2 hbA2 hbA hb1 hb2 hW2'
    by_cases hlt : j < n
    · obtain ⟨ga, oa, t, k, m, rfl, hc0, hc1, hc2⟩ := HA.out j hlt
      have hlb : ga < w.heap.size := World.block_lt_of_cell? w _ hc0
      have hcB0 := (hB.cell (p := ⟨ga, oa + j * 3, none⟩) hlb).trans hc0
      have hld1 : ∀ u, Below w.heap.size w u → u.cell? ⟨ga, oa + j * 3 + 1, none⟩ = some (.int .i64 k) := fun u h => by rw [h.cell hlb]; exact hc1
      have hld2 : ∀ u, Below w.heap.size w u → u.cell? ⟨ga, oa + j * 3 + 2, none⟩ = some (.int .i64 m) := fun u h => by rw [h.cell hlb]; exact hc2
      have hb0 : (0 : Int) ≤ (j : Int) := by omega
      have hb1 : (j : Int) < (n : Int) := by omega
      have hzB := hB.size
      have hg1 := hW.blk.lt
      have hg2 := hR.blk.lt
      have hne1 : l ≠ [] → (Value.slice A' l.length c').ownBlock ≠ some w1.heap.size := hW.ne
      have hne2 : l ≠ [] → (Value.slice A' l.length c').ownBlock ≠ some w2.heap.size := hR.ne
      have HNE1 := Lib.hid hne1
      have HNE2 := Lib.hid hne2
      clear hc0 hc1 hc2 hne1 hne2
      cases t with
      | true =>
        go_wp2_with fail
        refine wp_region_mix [(0, false), (1, false), (2, false), (3, false), (4, false), (5, false), (8, false), (9, false), (10, false), (11, false), (12, false), (13, false), (6, true), (7, false), (14, true), (15, true), (16, true)] (fun u => Below w.heap.size w u) (by kernel_rfl) (by kernel_rfl) (by kernel_rfl) rfl hB.drew ?_
        repeat
          (refine mix_read (o := ⟨_, _, _, _, _, _⟩) (v := ?_) rfl (by rfl) (fun w' hS => ?_) ?_
           rotate_left
           go_simp
           with_reducible rfl
           try simp only [Act.put, List.setIfInBounds_toArray, List.set_cons_zero, List.set_cons_succ])
        refine mix_more (o := ⟨_, _, _, _, _, _⟩) rfl (fun K hK => ?_)
        go_simp
        refine (rtext_all _ _ _ _ _ _ _ hW.drew).mono ?_
        rintro e w3 ⟨v3, rfl, hown3, hW3, hgr3⟩
        have hB3 : Below w.heap.size w w3 := hB.drew.grown hgr3 (show w.heap.size ≤ wr.heap.size from hzB) (by intro q hq; injection hq; omega)
        have hR3 := hR.drew.grown hgr3 (by intro h; injection h; omega) HNE1.out
        refine hK.out (fun u => Below w.heap.size w u ∧ Bs u v3 (tOut l p bad m)) _ _ (fun _ h => h.1) ⟨hB3, hown3.bs⟩ ?_
        clear hK K
        have hst3 : ∀ u, Below w.heap.size w u ∧ Bs u v3 (tOut l p bad m) → (convert 22 9 v3).run Try.prog u = .ok (.string (Bstr (tOut l p bad m))) u := fun u h => strOf h.2
        try simp only [Act.put, List.setIfInBounds_toArray, List.set_cons_zero, List.set_cons_succ]
        repeat
          (refine mix_read (o := ⟨_, _, _, _, _, _⟩) (v := ?_) rfl (by rfl) (fun w' hS => ?_) ?_
           rotate_left
           go_simp
           with_reducible rfl
           try simp only [Act.put, List.setIfInBounds_toArray, List.set_cons_zero, List.set_cons_succ])
        refine mix_step (o := ⟨_, _, _, _, _, _⟩) rfl (fun K hK => ?_)
        go_simp
        refine (Text_all _ _ _ _ _ _ _ hR3).mono ?_
        rintro e w4 ⟨v4, rfl, hown4, hR4, hgr4⟩
        have hB4 : Below w.heap.size w w4 := hB3.grown hgr4 hB3.size (by intro q hq; injection hq; omega)
        have hW4 := hW3.grown hgr4 (by intro h; injection h; omega) HNE2.out
        have hbs4 := hown3.bs.grown hgr4 (fun _ => hown3.ne_ (show w2.heap.size < wr.heap.size from hg2))
        refine hK.out _ _ ⟨hB4, hbs4⟩ ?_
        clear hK K
        have hst4 := strOf hown4.bs
        try simp only [Act.put, List.setIfInBounds_toArray, List.set_cons_zero, List.set_cons_succ]
        repeat
          (refine mix_step (o := ⟨_, _, _, _, _, _⟩) rfl (fun K hK => ?_)
           go_simp
           refine hK.out _ _ ⟨hB4, hbs4⟩ ?_
           clear hK K)
        refine mix_done ?_
        clear hst3 hst4 hown3 hown4 hbs4 hB3 hW3 hR3 hgr3 hgr4 hW hR hB hld1 hld2 hcB0
        generalize tNext l p bad m = p' at *
        generalize (!textOk l p bad m) = bad' at *
        have hpl := hW4.le
        have hq1 := hR4.blk.cell 1
        have hq2 := hR4.blk.cell 2
        have hwr : IntKind.i64.wrap ((l.length : Int) - (p' : Int)) = (l.length : Int) - (p' : Int) := IntWalk.i64_in _ (by omega)
        simp at hq1 hq2
        go_wp2_with fail
        go_quiet (first
          | (go_at_call 18; exact Calls.quiet_of (left_any _ _ _ _ _ _ (hW4.drewN _)))
          | (go_at_call 19; exact (bad_all _ _ _ _ _ _ (hW4.drewN _)).mono fun _ _ ⟨h1, h2⟩ => ⟨h1, _, h2.symm⟩))
        clear hwr
        go_wp2
        exact ⟨⟨j + 1, p', bad', by omega, by go_num, hW4.drewN _, hR4.drewN _, below_drewN hB4 _⟩, by simp [intOf]; omega⟩
      | false =>
        go_wp2_with fail
        refine wp_region_mix [(0, false), (1, false), (2, false), (3, false), (4, false), (5, false), (7, false), (8, false), (9, false), (10, false), (11, false), (12, false), (6, true), (13, true), (14, true)] (fun u => Below w.heap.size w u) (by kernel_rfl) (by kernel_rfl) (by kernel_rfl) rfl hB.drew ?_
        repeat
          (refine mix_read (o := ⟨_, _, _, _, _, _⟩) (v := ?_) rfl (by rfl) (fun w' hS => ?_) ?_
           rotate_left
           go_simp
           with_reducible rfl
           try simp only [Act.put, List.setIfInBounds_toArray, List.set_cons_zero, List.set_cons_succ])
        refine mix_step (o := ⟨_, _, _, _, _, _⟩) rfl (fun K hK => ?_)
        go_simp
        refine (word_all _ _ _ _ _ _ _ hW.drew).mono ?_
        rintro e w3 ⟨rfl, hW3, hgr3⟩
        have hB3 : Below w.heap.size w w3 := hB.drew.grown hgr3 (show w.heap.size ≤ wr.heap.size from hzB) (by intro q hq; injection hq; omega)
        have hR3 := hR.drew.grown hgr3 (by intro h; injection h; omega) HNE1.out
        refine hK.out _ _ hB3 ?_
        clear hK K
        try simp only [Act.put, List.setIfInBounds_toArray, List.set_cons_zero, List.set_cons_succ]
        refine mix_step (o := ⟨_, _, _, _, _, _⟩) rfl (fun K hK => ?_)
        go_simp
        refine (Word_all _ _ _ _ _ _ _ hR3).mono ?_
        rintro e w4 ⟨rfl, hR4, hgr4⟩
        have hB4 : Below w.heap.size w w4 := hB3.grown hgr4 hB3.size (by intro q hq; injection hq; omega)
        have hW4 := hW3.grown hgr4 (by intro h; injection h; omega) HNE2.out
        refine hK.out _ _ hB4 ?_
        clear hK K
        try simp only [Act.put, List.setIfInBounds_toArray, List.set_cons_zero, List.set_cons_succ]
        repeat
          (refine mix_step (o := ⟨_, _, _, _, _, _⟩) rfl (fun K hK => ?_)
           go_simp
           refine hK.out _ _ hB4 ?_
           clear hK K)
        refine mix_done ?_
        clear hB3 hW3 hR3 hgr3 hgr4 hW hR hB hld1 hld2 hcB0
        generalize wNext l p bad k = p' at *
        generalize (!wordOk l p bad k) = bad' at *
        have hpl := hW4.le
        have hq1 := hR4.blk.cell 1
        have hq2 := hR4.blk.cell 2
        have hwr : IntKind.i64.wrap ((l.length : Int) - (p' : Int)) = (l.length : Int) - (p' : Int) := IntWalk.i64_in _ (by omega)
        simp at hq1 hq2
        go_wp2_with fail
        go_quiet (first
          | (go_at_call 18; exact Calls.quiet_of (left_any _ _ _ _ _ _ (hW4.drewN _)))
          | (go_at_call 19; exact (bad_all _ _ _ _ _ _ (hW4.drewN _)).mono fun _ _ ⟨h1, h2⟩ => ⟨h1, _, h2.symm⟩))
        clear hwr
        go_wp2
        exact ⟨⟨j + 1, p', bad', by omega, by go_num, hW4.drewN _, hR4.drewN _, below_drewN hB4 _⟩, by simp [intOf]; omega⟩
    · go_wp2
      go_ret
      exact ⟨rfl, hB⟩

end Go.Proofs.Ytkffefbljmkdjaa

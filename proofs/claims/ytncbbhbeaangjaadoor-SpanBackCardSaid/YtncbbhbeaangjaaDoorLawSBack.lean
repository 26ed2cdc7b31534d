/-
  SpanBack: for all spans and all bytes it returns true, and what is handed in reads as it did. Its walk. Condition: errors.errorType holds the handle of 'error' (Hd).
-/
import Derived.Test.YtncbbhbeaangjaaDoorSpanG
import Derived.Test.YtncbbhbeaangjaaDoorSpanH
import Derived.Test.YtncbbhbeaangjaaDoorLawSTells
namespace Go.Proofs.YtncbbhbeaangjaaDoor
open Go.RowKit

theorem Ss.all_ok {w : World} {v : Value} {l : List Sn} (h : Ss w v l) : ∀ s ∈ l, s.ok := fun s hs => by
  obtain ⟨i, hi⟩ := List.mem_iff_getElem?.1 hs
  exact h.ok hi

set_option maxRecDepth 100000 in
set_option maxHeartbeats 6400000 in
theorem spanBack_any (v vb : Value) (l : List Sn) (b : List UInt8) (w : World) (h : Ss w v l) (hb : Bs w vb b) (hd : Hd w) :
    Calls Tryd.prog 6 #[v, vb] w fun e w' => e = .returned (.bool true) ∧ Below w.heap.size w w' := by
  have SL := Lib.hid h
  have SB := Lib.hid hb
  obtain ⟨A, c, rfl, hc1, hc2⟩ := h.form
  obtain ⟨Ab, cb, rfl, hb1, hb2, hbr⟩ := hb
  clear hbr h
  go_enter Tryd.func6, Tryd.ntmps6
  go_wp2_with fail
  refine (up3_any _ hd).mono ?_
  rintro e w1 ⟨rfl, hW⟩
  go_wp2_with fail
  refine (Few_any _ l _ _ (SL.out.below hW)).mono ?_
  rintro e w2 ⟨rfl, rfl⟩
  cases hf : fewB l 300 with
  | false =>
    go_wp2_with fail
    go_ret
    exact ⟨rfl, hW⟩
  | true =>
    have hl : l.length ≤ 300 := by
      simp only [fewB, Bool.and_eq_true, decide_eq_true_iff] at hf
      omega
    clear hf
    by_cases hbl : b.length ≤ 20000
    · go_wp2_with fail
      refine (sput_any _ l _ (SL.out.below hW) (by omega)).mono ?_
      rintro e w2 ⟨x, er, rfl, hP, hb2'⟩
      replace hW := hW.trans (hb2'.mono hW.size)
      clear hb2' hd
      cases hm : l.all mayB with
      | false =>
        obtain ⟨rfl, rfl⟩ := hP.no hm
        clear hP hm
        go_wp2_with fail
        refine (sget_any _ b _ (SB.out.below hW) (by omega)).mono ?_
        rintro e wA ⟨y2, g2, rfl, hG2, hbA⟩
        replace hW := hW.trans (hbA.mono hW.size)
        cases hr : getS nextMost b with
        | error p =>
          obtain ⟨rfl, hsp⟩ := hG2.no p hr
          obtain ⟨gs, rfl, _⟩ := hsp.is
          clear hr hG2 hsp hbA
          go_wp2_with fail
          go_ret
          exact ⟨rfl, hW⟩
        | ok ys =>
          obtain ⟨rfl, hS2⟩ := hG2.yes ys hr
          obtain ⟨q1, q2, q3⟩ := enc_get nextMost b ys hr
          clear hr hG2 hbA
          have Q2 := Lib.hid q2
          have Q3 := Lib.hid q3
          clear q2 q3
          go_wp2_with fail
          refine (sput_any _ ys _ hS2 q1).mono ?_
          rintro e wB ⟨x3, er3, rfl, hP3, hbB⟩
          replace hW := hW.trans (hbB.mono hW.size)
          obtain ⟨rfl, hown3⟩ := hP3.yes Q2.out
          rw [Q3.out] at hown3
          have st1 := strOf hown3.bs
          have st2 := strOf (SB.out.below hW)
          clear hP3 hbB hS2
          go_wp2_with fail
          go_ret
          exact ⟨rfl, hW⟩
      | true =>
        obtain ⟨rfl, hown⟩ := hP.yes hm
        have hge := get_enc nextMost (by decide) l (by omega) SL.out.all_ok hm
        have hel : (encS l).length ≤ 140737488355328 := by
          have h1 := enc_length l hm
          have h2 : (encS l).length = 2 + (l.flatMap encOne).length := by simp [encS, bet_length]
          omega
        have HGE := Lib.hid hge
        clear hge hP hm
        go_wp2_with fail
        refine (sget_any _ _ _ hown.bs hel).mono ?_
        rintro e w3 ⟨y, er, rfl, hG, hb3⟩
        replace hW := hW.trans (hb3.mono hW.size)
        obtain ⟨rfl, hS⟩ := hG.yes l HGE.out
        obtain ⟨Ay, cy, rfl, hy1, hy2⟩ := hS.form
        have HS := Lib.hid hS
        clear hG hb3 hown HGE hel hS
        go_wp2_with fail
        go_loopw [11] (fun i wr => ∃ k : Nat, k ≤ l.length ∧ i = .int .i64 k ∧ Below w3.heap.size w3 wr) (fun i _ => l.length - (intOf i).toNat)
        case atStart => exact ⟨0, Nat.zero_le _, rfl, Below.refl _ _⟩
        case round =>
          obtain ⟨k, hk, rfl, hB⟩ := hrel
          replace hW := hW.trans (hB.mono hW.size)
          by_cases hlt : k < l.length
          · obtain ⟨s, hks⟩ : ∃ s, l[k]? = some s := ⟨_, List.getElem?_eq_getElem hlt⟩
            obtain ⟨g, o, d, rfl, hg, c0, c1, c2, c3, c4, hdd, hok⟩ := (SL.out.below hW).cells hks
            obtain ⟨g', o', d', rfl, hg', x0, x1, x2, x3, x4, hdd', hok'⟩ := (HS.out.below hB).cells hks
            have r0 : ∀ u, Below wr.heap.size wr u → u.cell? ⟨g, o + k * 5, none⟩ = some (.int .u64 s.tr) := fun u h => (h.cell hg).trans c0
            have r1 : ∀ u, Below wr.heap.size wr u → u.cell? ⟨g, o + k * 5 + 1, none⟩ = some (.int .u64 s.id) := fun u h => (h.cell hg).trans c1
            have r2 : ∀ u, Below wr.heap.size wr u → u.cell? ⟨g, o + k * 5 + 2, none⟩ = some (.int .i64 s.st) := fun u h => (h.cell hg).trans c2
            have r3 : ∀ u, Below wr.heap.size wr u → u.cell? ⟨g, o + k * 5 + 3, none⟩ = some (.int .i64 s.en) := fun u h => (h.cell hg).trans c3
            have r4 : ∀ u, Below wr.heap.size wr u → u.cell? ⟨g, o + k * 5 + 4, none⟩ = some d := fun u h => (h.cell hg).trans c4
            have t0 : ∀ u, Below wr.heap.size wr u → u.cell? ⟨g', o' + k * 5, none⟩ = some (.int .u64 s.tr) := fun u h => (h.cell hg').trans x0
            have t1 : ∀ u, Below wr.heap.size wr u → u.cell? ⟨g', o' + k * 5 + 1, none⟩ = some (.int .u64 s.id) := fun u h => (h.cell hg').trans x1
            have t2 : ∀ u, Below wr.heap.size wr u → u.cell? ⟨g', o' + k * 5 + 2, none⟩ = some (.int .i64 s.st) := fun u h => (h.cell hg').trans x2
            have t3 : ∀ u, Below wr.heap.size wr u → u.cell? ⟨g', o' + k * 5 + 3, none⟩ = some (.int .i64 s.en) := fun u h => (h.cell hg').trans x3
            have t4 : ∀ u, Below wr.heap.size wr u → u.cell? ⟨g', o' + k * 5 + 4, none⟩ = some d' := fun u h => (h.cell hg').trans x4
            have hb0 : (0 : Int) ≤ (k : Int) := by omega
            have hb1 : (k : Int) < (l.length : Int) := by omega
            have V1 : SV wr.drew (.agg #[.int .u64 s.tr, .int .u64 s.id, .int .i64 s.st, .int .i64 s.en, d']) s := ⟨hok, d', rfl, hdd'⟩
            have V2 : SV wr.drew (.agg #[.int .u64 s.tr, .int .u64 s.id, .int .i64 s.st, .int .i64 s.en, d]) s := ⟨hok, d, rfl, hdd⟩
            clear c0 c1 c2 c3 c4 x0 x1 x2 x3 x4 hks hdd hdd'
            go_wp2_with fail
            refine wp_region_mix [(0, false), (1, false), (2, false), (3, false), (4, false), (5, false), (6, false), (7, false), (8, true), (9, true)] (fun u => Below wr.heap.size wr u) (by kernel_rfl) (by kernel_rfl) (by kernel_rfl) rfl (Below.refl _ _).drew ?_
            repeat
              (refine mix_read (o := ⟨_, _, _, _, _, _⟩) (v := ?_) rfl (by rfl) (fun w' hS => ?_) ?_
               rotate_left
               go_simp
               with_reducible rfl
               try simp only [Act.put, List.setIfInBounds_toArray, List.set_cons_zero, List.set_cons_succ])
            refine mix_step (o := ⟨_, _, _, _, _, _⟩) rfl (fun K hK => ?_)
            go_simp
            refine (same_any _ _ s s _ V1 V2).mono ?_
            rintro e u1 ⟨rfl, hu1⟩
            rw [sameB_self]
            have hU : Below wr.heap.size wr u1 := ⟨hu1.os, hu1.tape, hu1.output, hu1.size, hu1.block⟩
            refine hK.out _ _ hU ?_
            clear hK K
            try simp only [Act.put, List.setIfInBounds_toArray, List.set_cons_zero, List.set_cons_succ]
            repeat
              (refine mix_step (o := ⟨_, _, _, _, _, _⟩) rfl (fun K hK => ?_)
               go_simp
               refine hK.out _ _ hU ?_
               clear hK K)
            refine mix_done ?_
            clear r0 r1 r2 r3 r4 t0 t1 t2 t3 t4
            go_wp2_with fail
            refine ⟨⟨k + 1, by omega, by go_num, hB.trans (hU.mono hB.size)⟩, by simp [intOf]; omega⟩
          · go_wp2_with fail
            refine (sget_any _ b _ (SB.out.below hW) (by omega)).mono ?_
            rintro e wA ⟨y2, g2, rfl, hG2, hbA⟩
            replace hW := hW.trans (hbA.mono hW.size)
            cases hr : getS nextMost b with
            | error p =>
              obtain ⟨rfl, hsp⟩ := hG2.no p hr
              obtain ⟨gs, rfl, _⟩ := hsp.is
              clear hr hG2 hsp hbA
              go_wp2_with fail
              go_ret
              exact ⟨rfl, hW⟩
            | ok ys =>
              obtain ⟨rfl, hS2⟩ := hG2.yes ys hr
              obtain ⟨q1, q2, q3⟩ := enc_get nextMost b ys hr
              clear hr hG2 hbA
              have Q2 := Lib.hid q2
              have Q3 := Lib.hid q3
              clear q2 q3
              go_wp2_with fail
              refine (sput_any _ ys _ hS2 q1).mono ?_
              rintro e wB ⟨x3, er3, rfl, hP3, hbB⟩
              replace hW := hW.trans (hbB.mono hW.size)
              obtain ⟨rfl, hown3⟩ := hP3.yes Q2.out
              rw [Q3.out] at hown3
              have st1 := strOf hown3.bs
              have st2 := strOf (SB.out.below hW)
              clear hP3 hbB hS2
              go_wp2_with fail
              go_ret
              exact ⟨rfl, hW⟩
    · go_wp2_with fail
      go_ret
      exact ⟨rfl, hW⟩

end Go.Proofs.YtncbbhbeaangjaaDoor

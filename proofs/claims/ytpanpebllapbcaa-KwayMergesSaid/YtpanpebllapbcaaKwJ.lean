/-
  THE PROGRAM's kway.Sorted at tankard/api.Trace: what its closure tells (an order of what is left of rows), and what it tells. Conditions: at most 1000 rows, 10000 elements.
-/
import Derived.Test.YtpanpebllapbcaaKwE
import Derived.Test.YtpanpebllapbcaaHpLb
import Derived.Test.YtpanpebllapbcaaKwG
namespace Go.Proofs.Ytpanpebllapbcaa
open Go.RowKit
set_option maxRecDepth 100000

/-- an element, by value -/
def kvT (x : Te) : Value := .agg #[.int .u64 x.t.id, .slice x.A x.n x.c]
theorem kwLt_T (x y : Te) (w : World) : Calls Try.prog 18 #[.agg #[.int .u64 x.t.id, .slice x.A x.n x.c], .agg #[.int .u64 y.t.id, .slice y.A y.n y.c]] w fun e w' => e = .returned (.bool (teR x y)) ∧ Below w.heap.size w w' := by
  unfold teR
  go_enter Try.func18, Try.ntmps18
  go_wp2_with fail
  go_ret
  exact ⟨rfl, by first | exact Below.refl _ _ | exact ((Below.refl _ w).alloc (Nat.le_refl _) _).alloc (by simp) _⟩
theorem krD.below_T {w u : World} {a : Kr Te} (h : krD 2 teC w a) (hb : Below w.heap.size w u) : krD 2 teC u a := ⟨h.1, h.2.1, h.2.2.below hb⟩

set_option maxHeartbeats 1600000 in
theorem kwAhead_T {u : World} {q : Nat} (a b : Kr Te) (hq : u.cell? ⟨q, 0, none⟩ = some (.func (.func 18) #[] #[])) (hql : q < u.heap.size) (ha : krD 2 teC u a) (hb : krD 2 teC u b) :
    Calls Try.prog 35 (#[krV a, krV b] ++ #[.pointer (some ⟨q, 0, none⟩)]) u fun e u' => e = .returned (.bool (krR teR a b)) ∧ Below u.heap.size u u' := by
  obtain ⟨A, n, c, pa, l⟩ := a
  obtain ⟨A', n', c', pb, l'⟩ := b
  obtain ⟨h1, h2, h3⟩ := ha
  obtain ⟨h4, h5, h6⟩ := hb
  simp only at h1 h2 h3 h4 h5 h6
  obtain ⟨x, xs, rfl⟩ := List.exists_cons_of_ne_nil h1
  obtain ⟨y, ys, rfl⟩ := List.exists_cons_of_ne_nil h4
  rw [List.length_cons] at h2 h5
  obtain ⟨ga, oa, rfl, hga, hca⟩ := h3.cells (by omega) (i := 0) (x := teC x) rfl
  obtain ⟨gb, ob, rfl, hgb, hcb⟩ := h6.cells (by omega) (i := 0) (x := teC y) rfl
  have hn0 : 0 < n := by omega
  have hn1 : 0 < n' := by omega
  have hb2 : Below u.heap.size u ((u.alloc (.cells #[.slice (some ⟨ga, oa, none⟩) n c, .int .i64 (pa : Int)] 75)).alloc (.cells #[.slice (some ⟨gb, ob, none⟩) n' c', .int .i64 (pb : Int)] 75)) := ((Below.refl _ u).alloc (Nat.le_refl _) _).alloc (by simp) _
  have hx1 := (Blk.new u 75 #[.slice (some ⟨ga, oa, none⟩) n c, .int .i64 (pa : Int)]).alloc (.cells #[.slice (some ⟨gb, ob, none⟩) n' c', .int .i64 (pb : Int)] 75)
  have hy1 : Blk ((u.alloc (.cells #[.slice (some ⟨ga, oa, none⟩) n c, .int .i64 (pa : Int)] 75)).alloc (.cells #[.slice (some ⟨gb, ob, none⟩) n' c', .int .i64 (pb : Int)] 75)) (u.heap.size + 1) 75 #[.slice (some ⟨gb, ob, none⟩) n' c', .int .i64 (pb : Int)] := by
    have := Blk.new (u.alloc (.cells #[.slice (some ⟨ga, oa, none⟩) n c, .int .i64 (pa : Int)] 75)) 75 #[.slice (some ⟨gb, ob, none⟩) n' c', .int .i64 (pb : Int)]
    rwa [show (u.alloc (.cells #[.slice (some ⟨ga, oa, none⟩) n c, .int .i64 (pa : Int)] 75)).heap.size = u.heap.size + 1 by simp] at this
  have hz2 : ((u.alloc (.cells #[.slice (some ⟨ga, oa, none⟩) n c, .int .i64 (pa : Int)] 75)).alloc (.cells #[.slice (some ⟨gb, ob, none⟩) n' c', .int .i64 (pb : Int)] 75)).heap.size = u.heap.size + 2 := by simp
  have hE : ∀ u', Below ((u.alloc (.cells #[.slice (some ⟨ga, oa, none⟩) n c, .int .i64 (pa : Int)] 75)).alloc (.cells #[.slice (some ⟨gb, ob, none⟩) n' c', .int .i64 (pb : Int)] 75)).heap.size ((u.alloc (.cells #[.slice (some ⟨ga, oa, none⟩) n c, .int .i64 (pa : Int)] 75)).alloc (.cells #[.slice (some ⟨gb, ob, none⟩) n' c', .int .i64 (pb : Int)] 75)) u' →
      u'.cell? ⟨q, 0, none⟩ = some (.func (.func 18) #[] #[]) ∧ (u'.cell? ⟨u.heap.size, 0, none⟩ = some (.slice (some ⟨ga, oa, none⟩) n c) ∧ u'.cell? ⟨u.heap.size, 1, none⟩ = some (.int .i64 (pa : Int))) ∧ (u'.cell? ⟨u.heap.size + 1, 0, none⟩ = some (.slice (some ⟨gb, ob, none⟩) n' c') ∧ u'.cell? ⟨u.heap.size + 1, 1, none⟩ = some (.int .i64 (pb : Int))) ∧ (u'.cell? ⟨ga, oa, none⟩ = some (.int .u64 x.t.id) ∧ u'.cell? ⟨ga, oa + 1, none⟩ = some (.slice x.A x.n x.c)) ∧ (u'.cell? ⟨gb, ob, none⟩ = some (.int .u64 y.t.id) ∧ u'.cell? ⟨gb, ob + 1, none⟩ = some (.slice y.A y.n y.c)) := fun u' hu => by
    have hu2 := hb2.trans (hu.mono hb2.size)
    refine ⟨(hu2.cell (p := ⟨q, 0, none⟩) hql).trans hq, ⟨(hu.cell (by rw [hz2]; show u.heap.size < _; omega)).trans (hx1.cell 0), (hu.cell (by rw [hz2]; show u.heap.size < _; omega)).trans (hx1.cell 1)⟩, ⟨(hu.cell (by rw [hz2]; show u.heap.size + 1 < _; omega)).trans (hy1.cell 0), (hu.cell (by rw [hz2]; show u.heap.size + 1 < _; omega)).trans (hy1.cell 1)⟩, ⟨(hu2.cell (p := ⟨ga, _, none⟩) hga).trans (by simpa using hca 0 _ rfl), (hu2.cell (p := ⟨ga, _, none⟩) hga).trans (by simpa using hca 1 _ rfl)⟩, ⟨(hu2.cell (p := ⟨gb, _, none⟩) hgb).trans (by simpa using hcb 0 _ rfl), (hu2.cell (p := ⟨gb, _, none⟩) hgb).trans (by simpa using hcb 1 _ rfl)⟩⟩
  have HE := Lib.hid hE
  have HB2 := Lib.hid hb2
  clear h1 h2 h3 h4 h5 h6 hca hcb hx1 hy1 hz2 hE hb2 hq hql
  unfold krV
  by_cases hlt : pa < pb
  · have hR : Hid (krR teR (⟨some ⟨ga, oa, none⟩, n, c, pa, x :: xs⟩ : Kr Te) ⟨some ⟨gb, ob, none⟩, n', c', pb, y :: ys⟩ = !teR y x) := Lib.hid (by simp only [krR, if_pos hlt])
    have hcall := fun u' => kwLt_T y x u'
    go_enter Try.func35, Try.ntmps35
    go_wp2_with fail
    generalize (u.alloc (.cells #[.slice (some ⟨ga, oa, none⟩) n c, .int .i64 (pa : Int)] 75)).alloc (.cells #[.slice (some ⟨gb, ob, none⟩) n' c', .int .i64 (pb : Int)] 75) = w2 at *
    refine wp_region_mix [(0, false), (1, false), (2, false), (3, false), (4, false), (5, false), (6, false), (7, false), (8, false), (9, true), (10, false), (11, false)] (fun u => Below w2.heap.size w2 u) (by kernel_rfl) (by kernel_rfl) (by decide +kernel) rfl (Below.refl _ _).drew ?_
    repeat
      (refine mix_read (o := ⟨_, _, _, _, _, _⟩) (v := ?_) rfl (by rfl) (fun w' hU => ?_) ?_
       rotate_left
       obtain ⟨hU1, ⟨hU2, hU3⟩, ⟨hU4, hU5⟩, ⟨hX0, hX1⟩, ⟨hY0, hY1⟩⟩ := HE.out _ hU
       go_simp
       with_reducible rfl
       try simp only [Act.put, List.setIfInBounds_toArray, List.set_cons_zero, List.set_cons_succ])
    refine mix_step (o := ⟨_, _, _, _, _, _⟩) rfl (fun K hK => ?_)
    go_simp
    refine (hcall _).mono ?_
    rintro e w3 ⟨rfl, hb3⟩
    refine hK.out _ _ ((Below.refl _ _).drew.trans hb3) ?_
    clear hK K
    try simp only [Act.put, List.setIfInBounds_toArray, List.set_cons_zero, List.set_cons_succ]
    repeat
      (refine mix_read (o := ⟨_, _, _, _, _, _⟩) (v := ?_) rfl (by rfl) (fun w' hU => ?_) ?_
       rotate_left
       go_simp
       with_reducible rfl
       try simp only [Act.put, List.setIfInBounds_toArray, List.set_cons_zero, List.set_cons_succ])
    refine mix_done ?_
    go_wp2_with fail
    go_ret
    exact ⟨by rw [hR.out]; rfl, HB2.out.trans (((Below.refl _ _).drew.trans hb3).mono HB2.out.size)⟩
  · have hR : Hid (krR teR (⟨some ⟨ga, oa, none⟩, n, c, pa, x :: xs⟩ : Kr Te) ⟨some ⟨gb, ob, none⟩, n', c', pb, y :: ys⟩ = teR x y) := Lib.hid (by simp only [krR, if_neg hlt])
    have hcall := fun u' => kwLt_T x y u'
    go_enter Try.func35, Try.ntmps35
    go_wp2_with fail
    generalize (u.alloc (.cells #[.slice (some ⟨ga, oa, none⟩) n c, .int .i64 (pa : Int)] 75)).alloc (.cells #[.slice (some ⟨gb, ob, none⟩) n' c', .int .i64 (pb : Int)] 75) = w2 at *
    refine wp_region_mix [(0, false), (1, false), (2, false), (3, false), (4, false), (5, false), (6, false), (7, false), (8, false), (9, true), (10, false)] (fun u => Below w2.heap.size w2 u) (by kernel_rfl) (by kernel_rfl) (by decide +kernel) rfl (Below.refl _ _).drew ?_
    repeat
      (refine mix_read (o := ⟨_, _, _, _, _, _⟩) (v := ?_) rfl (by rfl) (fun w' hU => ?_) ?_
       rotate_left
       obtain ⟨hU1, ⟨hU2, hU3⟩, ⟨hU4, hU5⟩, ⟨hX0, hX1⟩, ⟨hY0, hY1⟩⟩ := HE.out _ hU
       go_simp
       with_reducible rfl
       try simp only [Act.put, List.setIfInBounds_toArray, List.set_cons_zero, List.set_cons_succ])
    refine mix_step (o := ⟨_, _, _, _, _, _⟩) rfl (fun K hK => ?_)
    go_simp
    refine (hcall _).mono ?_
    rintro e w3 ⟨rfl, hb3⟩
    refine hK.out _ _ ((Below.refl _ _).drew.trans hb3) ?_
    clear hK K
    try simp only [Act.put, List.setIfInBounds_toArray, List.set_cons_zero, List.set_cons_succ]
    repeat
      (refine mix_read (o := ⟨_, _, _, _, _, _⟩) (v := ?_) rfl (by rfl) (fun w' hU => ?_) ?_
       rotate_left
       go_simp
       with_reducible rfl
       try simp only [Act.put, List.setIfInBounds_toArray, List.set_cons_zero, List.set_cons_succ])
    refine mix_done ?_
    go_wp2_with fail
    go_ret
    exact ⟨by rw [hR.out]; rfl, HB2.out.trans (((Below.refl _ _).drew.trans hb3).mono HB2.out.size)⟩
end Go.Proofs.Ytpanpebllapbcaa

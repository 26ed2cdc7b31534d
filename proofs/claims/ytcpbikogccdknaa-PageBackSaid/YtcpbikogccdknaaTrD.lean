/-
  CONTRACTS of slices.CompactFunc at spans under trace.isOfOne, trace.leastOnes, trace.Gather.
-/
import Derived.Test.YtcpbikogccdknaaTrC
namespace Go.Proofs.Ytcpbikogccdknaa
open Go.RowKit
set_option maxRecDepth 100000


/-- one span put into a row of the call's own -/
theorem Own5.put {w : World} {base g n c : Nat} {l : List Sn} (h : Own5 w base (.slice (some ⟨g, 0, none⟩) n c) l) {i : Nat} (hi : i < l.length) {a : Sn} {d : Value} (ha : SpF w (some g) a (spCells a d)) :
    Own5 (((((w.setCell ⟨g, i * 5, none⟩ (.int .u64 a.tr)).setCell ⟨g, i * 5 + 1, none⟩ (.int .u64 a.id)).setCell ⟨g, i * 5 + 2, none⟩ (.int .i64 a.st)).setCell ⟨g, i * 5 + 3, none⟩ (.int .i64 a.en)).setCell ⟨g, i * 5 + 4, none⟩ d) base (.slice (some ⟨g, 0, none⟩) n c) (l.set i a) ∧
    w.grownBy (((((w.setCell ⟨g, i * 5, none⟩ (.int .u64 a.tr)).setCell ⟨g, i * 5 + 1, none⟩ (.int .u64 a.id)).setCell ⟨g, i * 5 + 2, none⟩ (.int .i64 a.st)).setCell ⟨g, i * 5 + 3, none⟩ (.int .i64 a.en)).setCell ⟨g, i * 5 + 4, none⟩ d) (some g) := by
  obtain ⟨xs, ⟨h1, hk⟩, h2⟩ := h
  have hnx : xs.length = n := by
    rcases h1.2 with ⟨hv, _⟩ | ⟨g', cap, cur, hv, _⟩
    · cases hv
    · injection hv with e1 e2 e3
      exact e2.symm
  have hix : i < xs.length := by have := h2.len; omega
  rw [hnx] at h1
  have hx : xs[i]? = some xs[i] := List.getElem?_eq_getElem hix
  have hx5 : xs[i].length = 5 := hk _ (List.getElem_mem hix)
  obtain ⟨p0, p1, p2, p3, p4, hp⟩ : ∃ p0 p1 p2 p3 p4, xs[i] = [p0, p1, p2, p3, p4] := by
    generalize xs[i] = q at hx5
    match q, hx5 with
    | [p0, p1, p2, p3, p4], _ => exact ⟨p0, p1, p2, p3, p4, rfl⟩
  rw [hp] at hx
  have hkk : ∀ (x : List Value), x.length = 5 → ∀ y ∈ xs.set i x, y.length = 5 := by
    intro x hx5 y hy
    rcases List.mem_or_eq_of_mem_set hy with hy | rfl
    · exact hk y hy
    · exact hx5
  have hat : ∀ x, (xs.set i x)[i]? = some x := fun x => by simp [hix]
  obtain ⟨s0, g0⟩ := h1.stored (i * 5 + 0) (.int .u64 a.tr)
  rw [flat_set1 hk _ hx (show 0 < 5 by omega)] at s0
  obtain ⟨s1, g1⟩ := s0.stored (i * 5 + 1) (.int .u64 a.id)
  rw [flat_set1 (hkk _ rfl) _ (hat _) (show 1 < 5 by omega), List.set_set] at s1
  obtain ⟨s2, g2⟩ := s1.stored (i * 5 + 2) (.int .i64 a.st)
  rw [flat_set1 (hkk _ rfl) _ (hat _) (show 2 < 5 by omega), List.set_set] at s2
  obtain ⟨s3, g3⟩ := s2.stored (i * 5 + 3) (.int .i64 a.en)
  rw [flat_set1 (hkk _ rfl) _ (hat _) (show 3 < 5 by omega), List.set_set] at s3
  obtain ⟨s4, g4⟩ := s3.stored (i * 5 + 4) d
  rw [flat_set1 (hkk _ rfl) _ (hat _) (show 4 < 5 by omega), List.set_set] at s4
  have hgr := grown_trans (grown_trans (grown_trans (grown_trans g0 g1) g2) g3) g4
  refine ⟨⟨xs.set i (spCells a d), ⟨?_, ?_⟩, ?_⟩, hgr⟩
  · rw [List.length_set, hnx]
    exact s4
  · exact hkk _ rfl
  · exact (h2.mono fun s x hs => hs.grown hgr).set i (ha.grown hgr)

/-- clear(s[m:]): the first m stay -/
theorem run_clear_own5 (w : World) {base g n c : Nat} {l : List Sn} (h : Own5 w base (.slice (some ⟨g, 0, none⟩) n c) l) (m : Nat) (hm : m < n) :
    ∃ w', (∀ ty, (Builtin.clear_ #[47] ty #[.slice (some ⟨g, m * 5, none⟩) (n - m) (c - m)]).run Try.prog w = .ok (.tuple #[]) w') ∧ Own5 w' base (.slice (some ⟨g, 0, none⟩) m c) (l.take m) ∧ w.grownBy w' (some g) := by
  obtain ⟨xs, ⟨h1, hk⟩, h2⟩ := h
  rcases h1.2 with ⟨hv, _⟩ | ⟨g', cap, cur, hv, hb, hg, hn, hcm, hcs, htk⟩
  · cases hv
  injection hv with e1 e2 e3
  injection e1 with e1
  injection e1 with e1
  subst e1 e3
  rw [← e2] at hn htk h1
  obtain ⟨i, z, hi, hz, hs, hby, hzs⟩ := spT.info
  have hone : ∀ v ∈ (Builtin.zeroCells z.cells (n - m)).toList, v.oneCell' = true := by
    intro v hv
    simp only [Builtin.zeroCells, Array.toList_map, List.mem_map] at hv
    obtain ⟨j, _, rfl⟩ := hv
    have hz' : z = .agg #[.int .u64 0, .int .u64 0, .int .i64 0, .int .i64 0, .slice none 0 0] := by
      have e : (Try.prog.info? 55).bind (·.zero) = some (.agg #[.int .u64 0, .int .u64 0, .int .i64 0, .int .i64 0, .slice none 0 0]) := by kernel_rfl
      rw [hi] at e
      simp only [Option.bind_some, hz, Option.some.injEq] at e
      exact e
    subst hz'
    have hj : j % 5 < 5 := Nat.mod_lt _ (by omega)
    simp only [Value.cells]
    generalize j % 5 = q at hj
    match q, hj with
    | 0, _ => rfl
    | 1, _ => rfl
    | 2, _ => rfl
    | 3, _ => rfl
    | 4, _ => rfl
  have hzl : (Builtin.zeroCells z.cells (n - m)).toList.length = (n - m) * 5 := by simp [Builtin.zeroCells, hzs]
  have hle : m * 5 + (n - m) * 5 = n * 5 := by omega
  have hst := run_storeCells_at Try.prog g (m * 5) 55 (Builtin.zeroCells z.cells (n - m)).toList 0 cur w hg (by rw [hzl, hcs]; omega) hone
  have hzv : (zeroValue 55).run Try.prog w = .ok z w := by simp [zeroValue, typeInfo, hi, hz]
  have hrun : ∀ ty, (Builtin.clear_ #[47] ty #[.slice (some ⟨g, m * 5, none⟩) (n - m) (c - m)]).run Try.prog w = .ok (.tuple #[]) (w.setRow g (cur.toList.take (m * 5 + 0) ++ (Builtin.zeroCells z.cells (n - m)).toList ++ cur.toList.drop (m * 5 + 0 + (Builtin.zeroCells z.cells (n - m)).toList.length)).toArray) := by
    intro ty
    obtain ⟨q, hq⟩ : ∃ q, n - m = q + 1 := ⟨n - m - 1, by omega⟩
    rw [hq] at hst ⊢
    simp only [Builtin.clear_, List.getElem?_toArray, List.getElem?_cons_zero, Sem.run_bind, run_underlying spT.under, Result.andThen_ok, hzv, hst, Sem.run_pure]
  have hgr : w.grownBy (w.setRow g (cur.toList.take (m * 5 + 0) ++ (Builtin.zeroCells z.cells (n - m)).toList ++ cur.toList.drop (m * 5 + 0 + (Builtin.zeroCells z.cells (n - m)).toList.length)).toArray) (some g) :=
    ⟨rfl, rfl, rfl, by simp [World.setRow], fun k' _ hk' => setRow_other w g k' _ (fun e => hk' (by simp [e]))⟩
  refine ⟨_, hrun, ⟨xs.take m, ⟨?_, fun x hx => hk x (List.mem_of_mem_take hx)⟩, (h2.mono fun s x hs => hs.grown hgr).take m⟩, hgr⟩
  have hlm : (xs.take m).length = m := by rw [List.length_take]; omega
  have hfl := flat_length (xs := xs.take m) (k := 5) fun x hx => hk x (List.mem_of_mem_take hx)
  rw [hlm] at hfl ⊢
  refine ⟨hfl, .inr ⟨g, c, _, rfl, hb, setRow_heap w g cur _ _ _ hg, by omega, hcm, ?_, ?_⟩⟩
  · simp only [List.size_toArray, List.length_append, hzl, List.length_take, List.length_drop, Array.length_toList]
    omega
  · simp only [Nat.add_zero]
    rw [List.append_assoc, List.take_append_of_le_length (by rw [List.length_take, Array.length_toList]; omega), List.take_take, Nat.min_self]
    have hxs : xs.flatten = (xs.take m).flatten ++ (xs.drop m).flatten := by rw [← List.flatten_append, List.take_append_drop]
    have h5 : cur.toList.take (m * 5) = (cur.toList.take (n * 5)).take (m * 5) := by rw [List.take_take, Nat.min_eq_left (by omega)]
    rw [h5, htk, hxs, List.take_append_of_le_length (by omega), List.take_of_length_le (by omega)]

theorem run_from (g n c k : Nat) (hkn : k < n) (hnc : n ≤ c) (u : World) :
    (Instr.slice 47 (.slice (some ⟨g, 0, none⟩) n c) (some (.int .i64 (k : Int))) none none).run Try.prog u = .ok (.slice (some ⟨g, k * 5, none⟩) (n - k) (c - k)) u := by
  obtain ⟨i, z, hi, hz, hs, hby, hzs⟩ := spT.info
  have he : Try.prog.elem 47 = 55 := by kernel_rfl
  rw [run_slice_l (P := Try.prog) (w := u) (t := 47) (a := some ⟨g, 0, none⟩) (len := n) (cap := c) (ht := by rw [he]; exact spT.under) .i64 k (by omega) (by omega)]
  simp [sizeOf, typeInfo, he, hi, hs, sliced, Addr.add_lit, show ¬ c = k by omega]

theorem run_upto (A : Option Addr) (n c k : Nat) (hkn : k ≤ n) (hnc : n ≤ c) (u : World) :
    (Instr.slice 47 (.slice A n c) none (some (.int .i64 (k : Int))) none).run Try.prog u = .ok (.slice A k c) u := by
  obtain ⟨i, z, hi, hz, hs, hby, hzs⟩ := spT.info
  have he : Try.prog.elem 47 = 55 := by kernel_rfl
  rw [run_slice_h (P := Try.prog) (w := u) (t := 47) (a := A) (len := n) (cap := c) (ht := by rw [he]; exact spT.under) .i64 k (by omega) (by omega)]
  simp [sizeOf, typeInfo, he, hi, hs, sliced]
  intro _
  cases A <;> simp [Addr.add]

end Go.Proofs.Ytcpbikogccdknaa

/-
  CONTRACTS of slices.Clone at spans, trace.apart. Conditions: at most 140737488355 spans.
  CONTRACTS of slices.CompactFunc at spans under trace.isOfOne, trace.leastOnes, trace.Gather.
  CONTRACTS of trace.leastOnes, trace.Gather, slices.Grow and slices.Concat at spans, trace.Merge, trace.Of. Conditions: at most 100000000 spans, Data of at most 1000000 bytes.
-/
import Derived.Test.YtnghpcfdgjkokaaGreatDoorTrA
import Derived.Test.YtnghpcfdgjkokaaGreatDoorCln
import Derived.Test.YtnghpcfdgjkokaaGreatDoorKee
import Derived.Lib.AppendZerosOnto
import Derived.Lib.AppendZeros
namespace Go.Proofs.YtnghpcfdgjkokaaGreatDoor
open Go.RowKit
set_option maxRecDepth 100000


theorem spT : ElemT Tryz.prog 73 72 5 56 := ⟨Tryz.underlying73, by omega, by
  refine ⟨_, _, rfl, rfl, rfl, rfl, ?_⟩
  rfl⟩

/-- v is a slice of the spans l, whose Data lies apart from the block 'row' -/
def Sf (w : World) (row : Option Nat) (v : Value) (l : List Sn) : Prop := ∃ xs, Lv 5 w v xs ∧ Two (SpF w row) l xs

section
variable {w w' w0 : World} {base : Nat} {v v' : Value} {l m : List Sn} {s : Sn} {x : List Value} {row row' : Option Nat}
theorem SpF.one (h : SpF w row s x) : ∀ u ∈ x, u.oneCell' = true := by
  obtain ⟨ho, d, rfl, ⟨A, c, rfl, _⟩, _⟩ := h
  intro u hu
  simp only [spCells, List.mem_cons, List.not_mem_nil, or_false] at hu
  rcases hu with rfl | rfl | rfl | rfl | rfl <;> rfl
theorem SpF.five (h : SpF w row s x) : x.length = 5 := by
  obtain ⟨ho, d, rfl, _⟩ := h
  rfl
/-- a row in a block that is new is apart from all Data -/
theorem SpF.fresh (h : SpF w row s x) (hr : row' = row ∨ row' = some w.heap.size) : SpF w row' s x := by
  rcases hr with rfl | rfl
  · exact h
  · exact SpF.of_spc h.spc (Nat.le_refl _)
theorem Sf.of_ss (h : Ss w0 v l) (hb : Below w0.heap.size w0 w) (hr : ∀ g, row = some g → w0.heap.size ≤ g) : Sf w row v l := by
  obtain ⟨xs, h1, h2⟩ := h
  refine ⟨xs, h1.below hb, h2.mono fun s x hs => ?_⟩
  obtain ⟨ho, d, hx, hd⟩ := hs
  refine ⟨ho, d, hx, hd.below hb, fun hne e => ?_⟩
  obtain ⟨k, hk, hk'⟩ := hd.block hne
  rw [hk] at e
  have := hr k e.symm
  omega
theorem Own5.sf (h : Own5 w base v l) : Sf w v.ownBlock v l := by
  obtain ⟨xs, h1, h2⟩ := h
  exact ⟨xs, h1.lv, h2⟩
theorem Own5.len (h : Own5 w base v l) : ∃ xs, OwnL 5 w base 72 v xs ∧ Two (SpF w v.ownBlock) l xs ∧ xs.length = l.length := by
  obtain ⟨xs, h1, h2⟩ := h
  exact ⟨xs, h1, h2, h2.len.symm⟩

variable (w)
theorem run_append_own5 (ty : TypeId) (h : Own5 w base v l) {V : Value} (hV : Sf w v.ownBlock V m) (hl : l.length + m.length ≤ 1000000000) (hbase : base ≤ w.heap.size) :
    ∃ v' w', (Builtin.append_ #[73, 73] ty #[v, V]).run Tryz.prog w = .ok v' w' ∧ Own5 w' base v' (l ++ m) ∧ w.grownBy w' v.ownBlock ∧ (v'.ownBlock = v.ownBlock ∨ v'.ownBlock = some w.heap.size) := by
  obtain ⟨xs, h1, h2⟩ := h
  obtain ⟨ys, h3, h4⟩ := hV
  have e1 := h2.len
  have e2 := h4.len
  obtain ⟨v', w', hrun, ho, hg, hv⟩ := run_append_elems w spT ty base v xs h1 V ys h3 (fun y hy => by
    obtain ⟨i, hi⟩ := List.mem_iff_getElem?.1 hy
    have hil : i < m.length := by have := (List.getElem?_eq_some_iff.1 hi).1; omega
    exact (h4.at_ i m[i] y (List.getElem?_eq_getElem hil) hi).one) (by simp only [maxLen]; omega) (by omega) hbase
  refine ⟨v', w', hrun, ⟨xs ++ ys, ho, (h2.append h4).mono fun s x hs => ?_⟩, hg, hv⟩
  have := hs.grown hg
  obtain ⟨hok, d, hx, hd, hn⟩ := hs
  obtain ⟨_, d', hx', hd', hn'⟩ := this
  refine ⟨hok, d', hx', hd', fun hne e => ?_⟩
  rcases hv with hv | hv
  · rw [hv] at e
    exact hn' hne e
  · rw [hv] at e
    have hdd : d' = d := by
      have := hx.symm.trans hx'
      simp only [spCells, List.cons.injEq, and_true] at this
      exact this.2.2.2.2.symm
    subst hdd
    obtain ⟨k, hk, hk'⟩ := hd.block hne
    rw [hk] at e
    injection e with e
    omega
theorem wpList_append_own5 {ops : Array Oper} {rest : List Oper} {o : Oper} {a : Act} {Q : Exit → Act → World → Prop} (hgd : o.guard = none) (sx x : Operand)
    (ho : o.op = .call { callee := .builtin .append, args := #[sx, x], argTypes := #[73, 73] })
    (hs : a.eval sx = v) (hacc : Own5 w base v l) {V : Value} (hx : a.eval x = V) (hV : Sf w v.ownBlock V m) (hl : l.length + m.length ≤ 1000000000) (hbase : base ≤ w.heap.size)
    (h : ∀ v' w', Own5 w' base v' (l ++ m) → w.grownBy w' v.ownBlock → (v'.ownBlock = v.ownBlock ∨ v'.ownBlock = some w.heap.size) → wpList Tryz.prog ops Q rest (a.put o.dst v') w') : wpList Tryz.prog ops Q (o :: rest) a w := by
  refine wpList_plain hgd fun K hK => ?_
  obtain ⟨v', w', hrun, h2, h3, h4⟩ := run_append_own5 w o.type hacc hV hl hbase
  unfold Oper.wp execOp
  simp only [ho, resolve, invoke, builtin, Sem.run_bind, Sem.run_pure, Result.andThen_ok, List.map_toArray, List.map_cons, List.map_nil, hs, hx, hrun]
  exact hK _ _ (h v' w' h2 h3 h4)
end

/-- a new row of no spans -/
theorem Own5.made (w : World) : Own5 (w.alloc (.cells #[] 72)) w.heap.size (.slice (some ⟨w.heap.size, 0, none⟩) 0 0) [] :=
  ⟨[], ⟨World.ownsRow_made w #[] 0 (Nat.le_refl _) (by simp [maxLen]) (by simp), fun x hx => by cases hx⟩, Two.nil⟩

/-- a row of the call's own, in a block that is known -/
theorem Own5.cells {w : World} {base g n c : Nat} {l : List Sn} (h : Own5 w base (.slice (some ⟨g, 0, none⟩) n c) l) {i : Nat} {s : Sn} (hi : l[i]? = some s) :
    ∃ d, w.cell? ⟨g, i * 5, none⟩ = some (.int .u64 s.tr) ∧ w.cell? ⟨g, i * 5 + 1, none⟩ = some (.int .u64 s.id) ∧ w.cell? ⟨g, i * 5 + 2, none⟩ = some (.int .i64 s.st) ∧
      w.cell? ⟨g, i * 5 + 3, none⟩ = some (.int .i64 s.en) ∧ w.cell? ⟨g, i * 5 + 4, none⟩ = some d ∧ Bs w d s.data ∧ (s.data ≠ [] → d.ownBlock ≠ some g) ∧ s.ok := by
  obtain ⟨xs, h1, h2⟩ := h
  obtain ⟨x, hx, hok, d, rfl, hd, hn⟩ := h2.right hi
  obtain ⟨g', o, hA, hg, hc⟩ := h1.lv.cells (by omega) hx
  injection hA with hA
  injection hA with e1 e2
  subst e1 e2
  refine ⟨d, ?_, ?_, ?_, ?_, ?_, hd, hn, hok⟩
  · simpa using hc 0 _ rfl
  · simpa using hc 1 _ rfl
  · simpa using hc 2 _ rfl
  · simpa using hc 3 _ rfl
  · simpa using hc 4 _ rfl
theorem Own5.frozen {w : World} {base g n c : Nat} {l : List Sn} (h : Own5 w base (.slice (some ⟨g, 0, none⟩) n c) l) (j : Nat) : w.frozen? ⟨g, j, none⟩ = false := by
  obtain ⟨xs, ⟨h1, _⟩, h2⟩ := h
  rcases h1.2 with ⟨hv, _⟩ | ⟨g', cap, cur, hv, _, hg, _⟩
  · cases hv
  · injection hv with e1 e2 e3
    injection e1 with e1
    injection e1 with e1
    subst e1
    simp [World.frozen?, hg]
theorem Own5.form {w : World} {base : Nat} {v : Value} {l : List Sn} (h : Own5 w base v l) : (v = .slice none 0 0 ∧ l = []) ∨ ∃ g c, v = .slice (some ⟨g, 0, none⟩) l.length c ∧ l.length ≤ c ∧ c ≤ 9223372036854775807 ∧ base ≤ g ∧ g < w.heap.size := by
  obtain ⟨xs, ⟨h1, _⟩, h2⟩ := h
  rcases h1.2 with ⟨hv, h0⟩ | ⟨g, cap, cur, hv, hb, hg, hn, hm, _⟩
  · have hx : xs = [] := List.eq_nil_of_length_eq_zero h0
    subst hx
    exact .inl ⟨hv, List.eq_nil_of_length_eq_zero h2.len⟩
  · rw [← h2.len] at hv hn
    simp only [maxLen] at hm
    exact .inr ⟨g, cap, hv, hn, hm, hb, (Array.getElem?_eq_some_iff.1 hg).1⟩

/-- Data of its own for one span -/
theorem Own5.data {w w1 : World} {base g n c : Nat} {l : List Sn} (h : Own5 w base (.slice (some ⟨g, 0, none⟩) n c) l) {i : Nat} {s : Sn} (hi : l[i]? = some s) (hb : Below w.heap.size w w1) {d : Value} (hd : Own w1 w.heap.size 5 d s.data) :
    Own5 (w1.setCell ⟨g, i * 5 + 4, none⟩ d) base (.slice (some ⟨g, 0, none⟩) n c) l ∧ w.grownBy (w1.setCell ⟨g, i * 5 + 4, none⟩ d) (some g) := by
  have hlt := (h.lt g rfl).2
  have h' := h.below hb
  obtain ⟨xs, ⟨h1, hk⟩, h2⟩ := h'
  have hnx : xs.length = n := by
    rcases h1.2 with ⟨hv, _⟩ | ⟨g', cap, cur, hv, _⟩
    · cases hv
    · injection hv with e1 e2 e3
      exact e2.symm
  obtain ⟨x, hx, hsx⟩ := h2.right hi
  obtain ⟨hok, d0, rfl, hd0, hn0⟩ := hsx
  rw [hnx] at h1
  obtain ⟨h3, h4⟩ := h1.stored (i * 5 + 4) d
  have e := flat_set1 hk d hx (show 4 < 5 by omega)
  rw [e] at h3
  have hgr : w.grownBy (w1.setCell ⟨g, i * 5 + 4, none⟩ d) (some g) := grown_trans (grown_of_below hb _) h4
  refine ⟨⟨xs.set i (spCells s d), ⟨?_, ?_⟩, ?_⟩, hgr⟩
  · rw [List.length_set, hnx]
    exact h3
  · intro y hy
    rcases List.mem_or_eq_of_mem_set hy with hy | rfl
    · exact hk y hy
    · rfl
  · refine (h2.mono fun s x hs => hs.grown h4).setR hi ⟨hok, d, rfl, hd.bs.grown h4 fun _ e => ?_, fun _ e => ?_⟩
    all_goals
      have := hd.ge g e
      omega

set_option maxRecDepth 100000 in
set_option maxHeartbeats 800000 in
theorem apart_any (v : Value) (l : List Sn) (base : Nat) (w : World) (h : Own5 w base v l) (hl : l.length ≤ 1000000000) (hdl : ∀ s ∈ l, s.data.length ≤ 1000000) :
    Calls Tryz.prog 121 #[v] w fun e w' => e = .returned v ∧ Own5 w' base v l ∧ w.grownBy w' v.ownBlock := by
  rcases h.form with ⟨rfl, rfl⟩ | ⟨g, c, rfl, hc1, hc2, hbg, hgw⟩
  · go_enter Tryz.func121, Tryz.ntmps121
    go_wp2_with fail
    refine wp_loop_rounds 1 ?_
    rw [rounds_succ]
    go_wp2_with fail
    go_ret
    exact ⟨rfl, h, World.grownBy.refl _ _⟩
  · have HO := Lib.hid h
    have HL := Lib.hid hdl
    clear h hdl
    go_enter Tryz.func121, Tryz.ntmps121
    go_wp2_with fail
    go_loopw [3, 6] (fun _ i wr => ∃ k : Nat, k ≤ l.length ∧ i = .int .i64 k ∧ Own5 wr base (.slice (some ⟨g, 0, none⟩) l.length c) l ∧ w.grownBy wr (some g)) (fun _ i _ => l.length - (intOf i).toNat)
    case atStart => exact ⟨0, Nat.zero_le _, rfl, HO.out, World.grownBy.refl _ _⟩
    case round =>
      obtain ⟨k, hk, rfl, hO, hG⟩ := hrel
      by_cases hlt : k < l.length
      · obtain ⟨s, hks⟩ : ∃ s, l[k]? = some s := ⟨_, List.getElem?_eq_getElem hlt⟩
        have hsd : s.data.length ≤ 140737488355328 := by
          have := HL.out s (List.mem_of_getElem? hks)
          omega
        obtain ⟨d, c0, c1, c2, c3, c4, hd, hn, hok⟩ := hO.cells hks
        have HO2 := Lib.hid hO
        have HKS := Lib.hid hks
        have HSD := Lib.hid hsd
        have HD := Lib.hid hd
        obtain ⟨A', c', hdv, _⟩ := hd
        subst hdv
        clear hO hks hsd hn c0 c1 c2 c3
        go_wp2_with fail
        refine (bclone_any s.data _ _ HSD.out HD.out).mono ?_
        rintro e w1 ⟨d1, rfl, hown1, hb1⟩
        obtain ⟨h5, h6⟩ := HO2.out.data HKS.out hb1 hown1
        have hf := (HO2.out.below hb1).frozen (k * 5 + 4)
        have hcc := ((HO2.out.below hb1).cells HKS.out)
        obtain ⟨d2, x0, x1, x2, x3, x4, _⟩ := hcc
        obtain ⟨A1, cc1, hdv1, _⟩ := hown1.form
        subst hdv1
        have H5 := Lib.hid h5
        have H6 := Lib.hid h6
        clear h5 h6 hown1 x0 x1 x2 x3 c4
        go_wp2_with fail
        exact ⟨⟨k + 1, by omega, by go_num, H5.out, grown_trans hG H6.out⟩, by simp [intOf]; omega⟩
      · go_wp2_with fail
        go_ret
        exact ⟨rfl, hO, hG⟩

end Go.Proofs.YtnghpcfdgjkokaaGreatDoor

namespace Go.Proofs.YtnghpcfdgjkokaaGreatDoor
open Go.RowKit
set_option maxRecDepth 100000


/-- one span put into a row of the call's own -/
theorem Own5.put {w : World} {base g n c : Nat} {l : List Sn} (h : Own5 w base (.slice (some ⟨g, 0, none⟩) n c) l) {i : Nat} (hi : i < l.length) {a : Sn} {d : Value} (ha : SpF w (some g) a (spCells a d)) :
    Own5 (((((w.setCell ⟨g, i * 5, none⟩ (.int .u64 a.tr)).setCell ⟨g, i * 5 + 1, none⟩ (.int .u64 a.id)).setCell ⟨g, i * 5 + 2, none⟩ (.int .i64 a.st)).setCell ⟨g, i * 5 + 3, none⟩ (.int .i64 a.en)).setCell ⟨g, i * 5 + 4, none⟩ d) base (.slice (some ⟨g, 0, none⟩) n c) (l.set i a) ∧
    w.grownBy (((((w.setCell ⟨g, i * 5, none⟩ (.int .u64 a.tr)).setCell ⟨g, i * 5 + 1, none⟩ (.int .u64 a.id)).setCell ⟨g, i * 5 + 2, none⟩ (.int .i64 a.st)).setCell ⟨g, i * 5 + 3, none⟩ (.int .i64 a.en)).setCell ⟨g, i * 5 + 4, none⟩ d) (some g) := by
  obtain ⟨xs, ⟨h1, hk⟩, h2⟩ := h
  have hnx : xs.length = n := by
    rcases h1.2 with ⟨hv, _⟩ | ⟨g', cap, cur, hv, _⟩
    · cases hv
    · injection hv with e1 e2 e3
      exact e2.symm
  have hix : i < xs.length := by have := h2.len; omega
  rw [hnx] at h1
  have hx : xs[i]? = some xs[i] := List.getElem?_eq_getElem hix
  have hx5 : xs[i].length = 5 := hk _ (List.getElem_mem hix)
  obtain ⟨p0, p1, p2, p3, p4, hp⟩ : ∃ p0 p1 p2 p3 p4, xs[i] = [p0, p1, p2, p3, p4] := by
    generalize xs[i] = q at hx5
    match q, hx5 with
    | [p0, p1, p2, p3, p4], _ => exact ⟨p0, p1, p2, p3, p4, rfl⟩
  rw [hp] at hx
  have hkk : ∀ (x : List Value), x.length = 5 → ∀ y ∈ xs.set i x, y.length = 5 := by
    intro x hx5 y hy
    rcases List.mem_or_eq_of_mem_set hy with hy | rfl
    · exact hk y hy
    · exact hx5
  have hat : ∀ x, (xs.set i x)[i]? = some x := fun x => by simp [hix]
  obtain ⟨s0, g0⟩ := h1.stored (i * 5 + 0) (.int .u64 a.tr)
  rw [flat_set1 hk _ hx (show 0 < 5 by omega)] at s0
  obtain ⟨s1, g1⟩ := s0.stored (i * 5 + 1) (.int .u64 a.id)
  rw [flat_set1 (hkk _ rfl) _ (hat _) (show 1 < 5 by omega), List.set_set] at s1
  obtain ⟨s2, g2⟩ := s1.stored (i * 5 + 2) (.int .i64 a.st)
  rw [flat_set1 (hkk _ rfl) _ (hat _) (show 2 < 5 by omega), List.set_set] at s2
  obtain ⟨s3, g3⟩ := s2.stored (i * 5 + 3) (.int .i64 a.en)
  rw [flat_set1 (hkk _ rfl) _ (hat _) (show 3 < 5 by omega), List.set_set] at s3
  obtain ⟨s4, g4⟩ := s3.stored (i * 5 + 4) d
  rw [flat_set1 (hkk _ rfl) _ (hat _) (show 4 < 5 by omega), List.set_set] at s4
  have hgr := grown_trans (grown_trans (grown_trans (grown_trans g0 g1) g2) g3) g4
  refine ⟨⟨xs.set i (spCells a d), ⟨?_, ?_⟩, ?_⟩, hgr⟩
  · rw [List.length_set, hnx]
    exact s4
  · exact hkk _ rfl
  · exact (h2.mono fun s x hs => hs.grown hgr).set i (ha.grown hgr)

/-- clear(s[m:]): the first m stay -/
theorem run_clear_own5 (w : World) {base g n c : Nat} {l : List Sn} (h : Own5 w base (.slice (some ⟨g, 0, none⟩) n c) l) (m : Nat) (hm : m < n) :
    ∃ w', (∀ ty, (Builtin.clear_ #[73] ty #[.slice (some ⟨g, m * 5, none⟩) (n - m) (c - m)]).run Tryz.prog w = .ok (.tuple #[]) w') ∧ Own5 w' base (.slice (some ⟨g, 0, none⟩) m c) (l.take m) ∧ w.grownBy w' (some g) := by
  obtain ⟨xs, ⟨h1, hk⟩, h2⟩ := h
  rcases h1.2 with ⟨hv, _⟩ | ⟨g', cap, cur, hv, hb, hg, hn, hcm, hcs, htk⟩
  · cases hv
  injection hv with e1 e2 e3
  injection e1 with e1
  injection e1 with e1
  subst e1 e3
  rw [← e2] at hn htk h1
  obtain ⟨i, z, hi, hz, hs, hby, hzs⟩ := spT.info
  have hone : ∀ v ∈ (Builtin.zeroCells z.cells (n - m)).toList, v.oneCell' = true := by
    intro v hv
    simp only [Builtin.zeroCells, Array.toList_map, List.mem_map] at hv
    obtain ⟨j, _, rfl⟩ := hv
    have hz' : z = .agg #[.int .u64 0, .int .u64 0, .int .i64 0, .int .i64 0, .slice none 0 0] := by
      have e : (Tryz.prog.info? 72).bind (·.zero) = some (.agg #[.int .u64 0, .int .u64 0, .int .i64 0, .int .i64 0, .slice none 0 0]) := by kernel_rfl
      rw [hi] at e
      simp only [Option.bind_some, hz, Option.some.injEq] at e
      exact e
    subst hz'
    have hj : j % 5 < 5 := Nat.mod_lt _ (by omega)
    simp only [Value.cells]
    generalize j % 5 = q at hj
    match q, hj with
    | 0, _ => rfl
    | 1, _ => rfl
    | 2, _ => rfl
    | 3, _ => rfl
    | 4, _ => rfl
  have hzl : (Builtin.zeroCells z.cells (n - m)).toList.length = (n - m) * 5 := by simp [Builtin.zeroCells, hzs]
  have hle : m * 5 + (n - m) * 5 = n * 5 := by omega
  have hst := run_storeCells_at Tryz.prog g (m * 5) 72 (Builtin.zeroCells z.cells (n - m)).toList 0 cur w hg (by rw [hzl, hcs]; omega) hone
  have hzv : (zeroValue 72).run Tryz.prog w = .ok z w := by simp [zeroValue, typeInfo, hi, hz]
  have hrun : ∀ ty, (Builtin.clear_ #[73] ty #[.slice (some ⟨g, m * 5, none⟩) (n - m) (c - m)]).run Tryz.prog w = .ok (.tuple #[]) (w.setRow g (cur.toList.take (m * 5 + 0) ++ (Builtin.zeroCells z.cells (n - m)).toList ++ cur.toList.drop (m * 5 + 0 + (Builtin.zeroCells z.cells (n - m)).toList.length)).toArray) := by
    intro ty
    obtain ⟨q, hq⟩ : ∃ q, n - m = q + 1 := ⟨n - m - 1, by omega⟩
    rw [hq] at hst ⊢
    simp only [Builtin.clear_, List.getElem?_toArray, List.getElem?_cons_zero, Sem.run_bind, run_underlying spT.under, Result.andThen_ok, hzv, hst, Sem.run_pure]
  have hgr : w.grownBy (w.setRow g (cur.toList.take (m * 5 + 0) ++ (Builtin.zeroCells z.cells (n - m)).toList ++ cur.toList.drop (m * 5 + 0 + (Builtin.zeroCells z.cells (n - m)).toList.length)).toArray) (some g) :=
    ⟨rfl, rfl, rfl, by simp [World.setRow], fun k' _ hk' => setRow_other w g k' _ (fun e => hk' (by simp [e]))⟩
  refine ⟨_, hrun, ⟨xs.take m, ⟨?_, fun x hx => hk x (List.mem_of_mem_take hx)⟩, (h2.mono fun s x hs => hs.grown hgr).take m⟩, hgr⟩
  have hlm : (xs.take m).length = m := by rw [List.length_take]; omega
  have hfl := flat_length (xs := xs.take m) (k := 5) fun x hx => hk x (List.mem_of_mem_take hx)
  rw [hlm] at hfl ⊢
  refine ⟨hfl, .inr ⟨g, c, _, rfl, hb, setRow_heap w g cur _ _ _ hg, by omega, hcm, ?_, ?_⟩⟩
  · simp only [List.size_toArray, List.length_append, hzl, List.length_take, List.length_drop, Array.length_toList]
    omega
  · simp only [Nat.add_zero]
    rw [List.append_assoc, List.take_append_of_le_length (by rw [List.length_take, Array.length_toList]; omega), List.take_take, Nat.min_self]
    have hxs : xs.flatten = (xs.take m).flatten ++ (xs.drop m).flatten := by rw [← List.flatten_append, List.take_append_drop]
    have h5 : cur.toList.take (m * 5) = (cur.toList.take (n * 5)).take (m * 5) := by rw [List.take_take, Nat.min_eq_left (by omega)]
    rw [h5, htk, hxs, List.take_append_of_le_length (by omega), List.take_of_length_le (by omega)]

theorem run_from (g n c k : Nat) (hkn : k < n) (hnc : n ≤ c) (u : World) :
    (Instr.slice 73 (.slice (some ⟨g, 0, none⟩) n c) (some (.int .i64 (k : Int))) none none).run Tryz.prog u = .ok (.slice (some ⟨g, k * 5, none⟩) (n - k) (c - k)) u := by
  obtain ⟨i, z, hi, hz, hs, hby, hzs⟩ := spT.info
  have he : Tryz.prog.elem 73 = 72 := by kernel_rfl
  rw [run_slice_l (P := Tryz.prog) (w := u) (t := 73) (a := some ⟨g, 0, none⟩) (len := n) (cap := c) (ht := by rw [he]; exact spT.under) .i64 k (by omega) (by omega)]
  simp [sizeOf, typeInfo, he, hi, hs, sliced, Addr.add_lit, show ¬ c = k by omega]

theorem run_upto (A : Option Addr) (n c k : Nat) (hkn : k ≤ n) (hnc : n ≤ c) (u : World) :
    (Instr.slice 73 (.slice A n c) none (some (.int .i64 (k : Int))) none).run Tryz.prog u = .ok (.slice A k c) u := by
  obtain ⟨i, z, hi, hz, hs, hby, hzs⟩ := spT.info
  have he : Tryz.prog.elem 73 = 72 := by kernel_rfl
  rw [run_slice_h (P := Tryz.prog) (w := u) (t := 73) (a := A) (len := n) (cap := c) (ht := by rw [he]; exact spT.under) .i64 k (by omega) (by omega)]
  simp [sizeOf, typeInfo, he, hi, hs, sliced]
  intro _
  cases A <;> simp [Addr.add]

end Go.Proofs.YtnghpcfdgjkokaaGreatDoor

namespace Go.Proofs.YtnghpcfdgjkokaaGreatDoor
open Go.RowKit
set_option maxRecDepth 100000


/-- those that count, side by side -/
def Lst (l r : List Sn) : Prop := ∃ d : List Sn, d.Perm l ∧ (d.Pairwise fun a b => cmpW a b ≤ 0) ∧ r = dedL d
theorem Lst.len {l r : List Sn} (h : Lst l r) : r.length ≤ l.length := by
  obtain ⟨d, h1, _, rfl⟩ := h
  have := (dedL_sub d).length_le
  have := h1.length_eq
  omega
theorem Lst.sub {l r : List Sn} (h : Lst l r) : ∀ s ∈ r, s ∈ l := by
  obtain ⟨d, h1, _, rfl⟩ := h
  exact fun s hs => h1.mem_iff.1 ((dedL_sub d).subset hs)
theorem Gat.sub {l r : List Sn} (h : Gat l r) : ∀ s ∈ r, s ∈ l := fun s hs => ((h.mem s).1 hs).1
theorem Gat.nodup {l r : List Sn} (h : Gat l r) : r.Nodup := h.up.imp fun {a b} hab e => by
  subst e
  have := three_cmpS.rf a
  omega
theorem nodup_le : ∀ {r l : List Sn}, r.Nodup → (∀ s ∈ r, s ∈ l) → r.length ≤ l.length
  | [], l, _, _ => by simp
  | a :: r, l, hn, hs => by
    rw [List.nodup_cons] at hn
    have ha := hs a (List.mem_cons_self ..)
    obtain ⟨p, q, rfl⟩ := List.append_of_mem ha
    have ih := nodup_le (r := r) (l := p ++ q) hn.2 fun s h => by
      have := hs s (List.mem_cons_of_mem _ h)
      rcases List.mem_append.1 this with h1 | h1
      · exact List.mem_append_left _ h1
      · rcases List.mem_cons.1 h1 with h2 | h2
        · subst h2; exact absurd h hn.1
        · exact List.mem_append_right _ h2
    simp only [List.length_append, List.length_cons] at ih ⊢
    omega
theorem Gat.len {l r : List Sn} (h : Gat l r) : r.length ≤ l.length := nodup_le h.nodup h.sub

theorem below_own {base : Nat} {w w' w'' : World} (hB : Below base w w') {v : Value} (hg : w'.grownBy w'' v.ownBlock) (hb : base ≤ w'.heap.size) (hv : ∀ k, v.ownBlock = some k → base ≤ k) : Below base w w'' := hB.grown hg hb hv

theorem enters_compare (args : Array Value) (w : World) : (callFunc 115 args).run Tryz.prog w = .ok (.enter 115 args) w := enters_of Tryz.func115 (by kernel_rfl) rfl args w

/-- a literal of one span, its Data older than the call -/
theorem Sf.lit {w0 W : World} (hB : Below w0.heap.size w0 W) {s : Sn} {d : Value} (hok : s.ok) (hd : Bs w0 d s.data) {H : Nat} (hH : W.heap.size = H) {row : Option Nat} (hr : ∀ g, row = some g → w0.heap.size ≤ g) :
    Sf (W.alloc (.cells #[.int .u64 s.tr, .int .u64 s.id, .int .i64 s.st, .int .i64 s.en, d] 72)) row (.slice (some ⟨H, 0, none⟩) 1 1) [s] := by
  subst hH
  refine ⟨[spCells s d], Lv.lit1 (w := W) (spCells s d) 72, ?_⟩
  refine Two.nil.snoc (l := []) (m := []) ⟨hok, d, rfl, (hd.below hB).alloc _, fun hne e => ?_⟩
  obtain ⟨k, hk, hk'⟩ := hd.block hne
  rw [hk] at e
  have := hr k e.symm
  omega

end Go.Proofs.YtnghpcfdgjkokaaGreatDoor

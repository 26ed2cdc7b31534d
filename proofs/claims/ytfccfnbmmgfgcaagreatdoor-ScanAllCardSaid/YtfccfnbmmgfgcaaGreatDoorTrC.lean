/-
  CONTRACTS of slices.Clone at spans, trace.apart. Conditions: at most 140737488355 spans.
  CONTRACTS of slices.CompactFunc at spans under trace.isOfOne, trace.leastOnes, trace.Gather.
  CONTRACTS of trace.leastOnes, trace.Gather, slices.Grow and slices.Concat at spans, trace.Merge, trace.Of. Conditions: at most 100000000 spans, Data of at most 1000000 bytes.
-/
import Derived.Test.YtfccfnbmmgfgcaaGreatDoorTrA
import Derived.Test.YtfccfnbmmgfgcaaGreatDoorCln
import Derived.Test.YtfccfnbmmgfgcaaGreatDoorKee
import Derived.Lib.AppendZerosOnto
import Derived.Lib.AppendZeros
namespace Go.Proofs.YtfccfnbmmgfgcaaGreatDoor
open Go.RowKit
set_option maxRecDepth 100000


theorem spT : ElemT Tryz.prog 41 87 5 56 := ⟨Tryz.underlying41, by omega, by
  refine ⟨_, _, rfl, rfl, rfl, rfl, ?_⟩
  rfl⟩

def Sf (w : World) (row : Option Nat) (v : Value) (l : List Sn) : Prop := ∃ xs, Lv 5 w v xs ∧ Two (SpF w row) l xs

section
variable {w w' w0 : World} {base : Nat} {v v' : Value} {l m : List Sn} {s : Sn} {x : List Value} {row row' : Option Nat}
theorem SpF.one (h : SpF w row s x) : ∀ u ∈ x, u.oneCell' = true := by
  obtain ⟨ho, d, rfl, ⟨A, c, rfl, _⟩, _⟩ := h
  intro u hu
  simp only [spCells, List.mem_cons, List.not_mem_nil, or_false] at hu
  rcases hu with rfl | rfl | rfl | rfl | rfl <;> rfl
theorem Sf.of_ss (h : Ss w0 v l) (hb : Below w0.heap.size w0 w) (hr : ∀ g, row = some g → w0.heap.size ≤ g) : Sf w row v l := by
  obtain ⟨xs, h1, h2⟩ := h
  refine ⟨xs, h1.below hb, h2.mono fun s x hs => ?_⟩
  obtain ⟨ho, d, hx, hd⟩ := hs
  refine ⟨ho, d, hx, hd.below hb, fun hne e => ?_⟩
  obtain ⟨k, hk, hk'⟩ := hd.block hne
  rw [hk] at e
  have := hr k e.symm
  omega
theorem Own5.len (h : Own5 w base v l) : ∃ xs, OwnL 5 w base 87 v xs ∧ Two (SpF w v.ownBlock) l xs ∧ xs.length = l.length := by
  obtain ⟨xs, h1, h2⟩ := h
  exact ⟨xs, h1, h2, h2.len.symm⟩

variable (w)
theorem run_append_own5 (ty : TypeId) (h : Own5 w base v l) {V : Value} (hV : Sf w v.ownBlock V m) (hl : l.length + m.length ≤ 1000000000) (hbase : base ≤ w.heap.size) :
    ∃ v' w', (Builtin.append_ #[41, 41] ty #[v, V]).run Tryz.prog w = .ok v' w' ∧ Own5 w' base v' (l ++ m) ∧ w.grownBy w' v.ownBlock ∧ (v'.ownBlock = v.ownBlock ∨ v'.ownBlock = some w.heap.size) := by
  obtain ⟨xs, h1, h2⟩ := h
  obtain ⟨ys, h3, h4⟩ := hV
  have e1 := h2.len
  have e2 := h4.len
  obtain ⟨v', w', hrun, ho, hg, hv⟩ := run_append_elems w spT ty base v xs h1 V ys h3 (fun y hy => by
    obtain ⟨i, hi⟩ := List.mem_iff_getElem?.1 hy
    have hil : i < m.length := by have := (List.getElem?_eq_some_iff.1 hi).1; omega
    exact (h4.at_ i m[i] y (List.getElem?_eq_getElem hil) hi).one) (by simp only [maxLen]; omega) (by omega) hbase
  refine ⟨v', w', hrun, ⟨xs ++ ys, ho, (h2.append h4).mono fun s x hs => ?_⟩, hg, hv⟩
  have := hs.grown hg
  obtain ⟨hok, d, hx, hd, hn⟩ := hs
  obtain ⟨_, d', hx', hd', hn'⟩ := this
  refine ⟨hok, d', hx', hd', fun hne e => ?_⟩
  rcases hv with hv | hv
  · rw [hv] at e
    exact hn' hne e
  · rw [hv] at e
    have hdd : d' = d := by
      have := hx.symm.trans hx'
      simp only [spCells, List.cons.injEq, and_true] at this
      exact this.2.2.2.2.symm
    subst hdd
    obtain ⟨k, hk, hk'⟩ := hd.block hne
    rw [hk] at e
    injection e with e
    omega
theorem wpList_append_own5 {ops : Array Oper} {rest : List Oper} {o : Oper} {a : Act} {Q : Exit → Act → World → Prop} (hgd : o.guard = none) (sx x : Operand)
    (ho : o.op = .call { callee := .builtin .append, args := #[sx, x], argTypes := #[41, 41] })
    (hs : a.eval sx = v) (hacc : Own5 w base v l) {V : Value} (hx : a.eval x = V) (hV : Sf w v.ownBlock V m) (hl : l.length + m.length ≤ 1000000000) (hbase : base ≤ w.heap.size)
    (h : ∀ v' w', Own5 w' base v' (l ++ m) → w.grownBy w' v.ownBlock → (v'.ownBlock = v.ownBlock ∨ v'.ownBlock = some w.heap.size) → wpList Tryz.prog ops Q rest (a.put o.dst v') w') : wpList Tryz.prog ops Q (o :: rest) a w := by
  refine wpList_plain hgd fun K hK => ?_
  obtain ⟨v', w', hrun, h2, h3, h4⟩ := run_append_own5 w o.type hacc hV hl hbase
  unfold Oper.wp execOp
  simp only [ho, resolve, invoke, builtin, Sem.run_bind, Sem.run_pure, Result.andThen_ok, List.map_toArray, List.map_cons, List.map_nil, hs, hx, hrun]
  exact hK _ _ (h v' w' h2 h3 h4)
end

theorem Own5.made (w : World) : Own5 (w.alloc (.cells #[] 87)) w.heap.size (.slice (some ⟨w.heap.size, 0, none⟩) 0 0) [] :=
  ⟨[], ⟨World.ownsRow_made w #[] 0 (Nat.le_refl _) (by simp [maxLen]) (by simp), fun x hx => by cases hx⟩, Two.nil⟩

theorem Own5.cells {w : World} {base g n c : Nat} {l : List Sn} (h : Own5 w base (.slice (some ⟨g, 0, none⟩) n c) l) {i : Nat} {s : Sn} (hi : l[i]? = some s) :
    ∃ d, w.cell? ⟨g, i * 5, none⟩ = some (.int .u64 s.tr) ∧ w.cell? ⟨g, i * 5 + 1, none⟩ = some (.int .u64 s.id) ∧ w.cell? ⟨g, i * 5 + 2, none⟩ = some (.int .i64 s.st) ∧
      w.cell? ⟨g, i * 5 + 3, none⟩ = some (.int .i64 s.en) ∧ w.cell? ⟨g, i * 5 + 4, none⟩ = some d ∧ Bs w d s.data ∧ (s.data ≠ [] → d.ownBlock ≠ some g) ∧ s.ok := by
  obtain ⟨xs, h1, h2⟩ := h
  obtain ⟨x, hx, hok, d, rfl, hd, hn⟩ := h2.right hi
  obtain ⟨g', o, hA, hg, hc⟩ := h1.lv.cells (by omega) hx
  injection hA with hA
  injection hA with e1 e2
  subst e1 e2
  refine ⟨d, ?_, ?_, ?_, ?_, ?_, hd, hn, hok⟩
  · simpa using hc 0 _ rfl
  · simpa using hc 1 _ rfl
  · simpa using hc 2 _ rfl
  · simpa using hc 3 _ rfl
  · simpa using hc 4 _ rfl
theorem Own5.frozen {w : World} {base g n c : Nat} {l : List Sn} (h : Own5 w base (.slice (some ⟨g, 0, none⟩) n c) l) (j : Nat) : w.frozen? ⟨g, j, none⟩ = false := by
  obtain ⟨xs, ⟨h1, _⟩, h2⟩ := h
  rcases h1.2 with ⟨hv, _⟩ | ⟨g', cap, cur, hv, _, hg, _⟩
  · cases hv
  · injection hv with e1 e2 e3
    injection e1 with e1
    injection e1 with e1
    subst e1
    simp [World.frozen?, hg]
theorem Own5.form {w : World} {base : Nat} {v : Value} {l : List Sn} (h : Own5 w base v l) : (v = .slice none 0 0 ∧ l = []) ∨ ∃ g c, v = .slice (some ⟨g, 0, none⟩) l.length c ∧ l.length ≤ c ∧ c ≤ 9223372036854775807 ∧ base ≤ g ∧ g < w.heap.size := by
  obtain ⟨xs, ⟨h1, _⟩, h2⟩ := h
  rcases h1.2 with ⟨hv, h0⟩ | ⟨g, cap, cur, hv, hb, hg, hn, hm, _⟩
  · have hx : xs = [] := List.eq_nil_of_length_eq_zero h0
    subst hx
    exact .inl ⟨hv, List.eq_nil_of_length_eq_zero h2.len⟩
  · rw [← h2.len] at hv hn
    simp only [maxLen] at hm
    exact .inr ⟨g, cap, hv, hn, hm, hb, (Array.getElem?_eq_some_iff.1 hg).1⟩

theorem Own5.data {w w1 : World} {base g n c : Nat} {l : List Sn} (h : Own5 w base (.slice (some ⟨g, 0, none⟩) n c) l) {i : Nat} {s : Sn} (hi : l[i]? = some s) (hb : Below w.heap.size w w1) {d : Value} (hd : Own w1 w.heap.size 5 d s.data) :
    Own5 (w1.setCell ⟨g, i * 5 + 4, none⟩ d) base (.slice (some ⟨g, 0, none⟩) n c) l ∧ w.grownBy (w1.setCell ⟨g, i * 5 + 4, none⟩ d) (some g) := by
  have hlt := (h.lt g rfl).2
  have h' := h.below hb
  obtain ⟨xs, ⟨h1, hk⟩, h2⟩ := h'
  have hnx : xs.length = n := by
    rcases h1.2 with ⟨hv, _⟩ | ⟨g', cap, cur, hv, _⟩
    · cases hv
    · injection hv with e1 e2 e3
      exact e2.symm
  obtain ⟨x, hx, hsx⟩ := h2.right hi
  obtain ⟨hok, d0, rfl, hd0, hn0⟩ := hsx
  rw [hnx] at h1
  obtain ⟨h3, h4⟩ := h1.stored (i * 5 + 4) d
  have e := flat_set1 hk d hx (show 4 < 5 by omega)
  rw [e] at h3
  have hgr : w.grownBy (w1.setCell ⟨g, i * 5 + 4, none⟩ d) (some g) := grown_trans (grown_of_below hb _) h4
  refine ⟨⟨xs.set i (spCells s d), ⟨?_, ?_⟩, ?_⟩, hgr⟩
  · rw [List.length_set, hnx]
    exact h3
  · intro y hy
    rcases List.mem_or_eq_of_mem_set hy with hy | rfl
    · exact hk y hy
    · rfl
  · refine (h2.mono fun s x hs => hs.grown h4).setR hi ⟨hok, d, rfl, hd.bs.grown h4 fun _ e => ?_, fun _ e => ?_⟩
    all_goals
      have := hd.ge g e
      omega

theorem Own5.put {w : World} {base g n c : Nat} {l : List Sn} (h : Own5 w base (.slice (some ⟨g, 0, none⟩) n c) l) {i : Nat} (hi : i < l.length) {a : Sn} {d : Value} (ha : SpF w (some g) a (spCells a d)) :
    Own5 (((((w.setCell ⟨g, i * 5, none⟩ (.int .u64 a.tr)).setCell ⟨g, i * 5 + 1, none⟩ (.int .u64 a.id)).setCell ⟨g, i * 5 + 2, none⟩ (.int .i64 a.st)).setCell ⟨g, i * 5 + 3, none⟩ (.int .i64 a.en)).setCell ⟨g, i * 5 + 4, none⟩ d) base (.slice (some ⟨g, 0, none⟩) n c) (l.set i a) ∧
    w.grownBy (((((w.setCell ⟨g, i * 5, none⟩ (.int .u64 a.tr)).setCell ⟨g, i * 5 + 1, none⟩ (.int .u64 a.id)).setCell ⟨g, i * 5 + 2, none⟩ (.int .i64 a.st)).setCell ⟨g, i * 5 + 3, none⟩ (.int .i64 a.en)).setCell ⟨g, i * 5 + 4, none⟩ d) (some g) := by
  obtain ⟨xs, ⟨h1, hk⟩, h2⟩ := h
  have hnx : xs.length = n := by
    rcases h1.2 with ⟨hv, _⟩ | ⟨g', cap, cur, hv, _⟩
    · cases hv
    · injection hv with e1 e2 e3
      exact e2.symm
  have hix : i < xs.length := by have := h2.len; omega
  rw [hnx] at h1
  have hx : xs[i]? = some xs[i] := List.getElem?_eq_getElem hix
  have hx5 : xs[i].length = 5 := hk _ (List.getElem_mem hix)
  obtain ⟨p0, p1, p2, p3, p4, hp⟩ : ∃ p0 p1 p2 p3 p4, xs[i] = [p0, p1, p2, p3, p4] := by
    generalize xs[i] = q at hx5
    match q, hx5 with
    | [p0, p1, p2, p3, p4], _ => exact ⟨p0, p1, p2, p3, p4, rfl⟩
  rw [hp] at hx
  have hkk : ∀ (x : List Value), x.length = 5 → ∀ y ∈ xs.set i x, y.length = 5 := by
    intro x hx5 y hy
    rcases List.mem_or_eq_of_mem_set hy with hy | rfl
    · exact hk y hy
    · exact hx5
  have hat : ∀ x, (xs.set i x)[i]? = some x := fun x => by simp [hix]
  obtain ⟨s0, g0⟩ := h1.stored (i * 5 + 0) (.int .u64 a.tr)
  rw [flat_set1 hk _ hx (show 0 < 5 by omega)] at s0
  obtain ⟨s1, g1⟩ := s0.stored (i * 5 + 1) (.int .u64 a.id)
  rw [flat_set1 (hkk _ rfl) _ (hat _) (show 1 < 5 by omega), List.set_set] at s1
  obtain ⟨s2, g2⟩ := s1.stored (i * 5 + 2) (.int .i64 a.st)
  rw [flat_set1 (hkk _ rfl) _ (hat _) (show 2 < 5 by omega), List.set_set] at s2
  obtain ⟨s3, g3⟩ := s2.stored (i * 5 + 3) (.int .i64 a.en)
  rw [flat_set1 (hkk _ rfl) _ (hat _) (show 3 < 5 by omega), List.set_set] at s3
  obtain ⟨s4, g4⟩ := s3.stored (i * 5 + 4) d
  rw [flat_set1 (hkk _ rfl) _ (hat _) (show 4 < 5 by omega), List.set_set] at s4
  have hgr := grown_trans (grown_trans (grown_trans (grown_trans g0 g1) g2) g3) g4
  refine ⟨⟨xs.set i (spCells a d), ⟨?_, ?_⟩, ?_⟩, hgr⟩
  · rw [List.length_set, hnx]
    exact s4
  · exact hkk _ rfl
  · exact (h2.mono fun s x hs => hs.grown hgr).set i (ha.grown hgr)

def Lst (l r : List Sn) : Prop := ∃ d : List Sn, d.Perm l ∧ (d.Pairwise fun a b => cmpW a b ≤ 0) ∧ r = dedL d
theorem Lst.len {l r : List Sn} (h : Lst l r) : r.length ≤ l.length := by
  obtain ⟨d, h1, _, rfl⟩ := h
  have := (dedL_sub d).length_le
  have := h1.length_eq
  omega
theorem Lst.sub {l r : List Sn} (h : Lst l r) : ∀ s ∈ r, s ∈ l := by
  obtain ⟨d, h1, _, rfl⟩ := h
  exact fun s hs => h1.mem_iff.1 ((dedL_sub d).subset hs)
theorem Gat.sub {l r : List Sn} (h : Gat l r) : ∀ s ∈ r, s ∈ l := fun s hs => ((h.mem s).1 hs).1
theorem Gat.nodup {l r : List Sn} (h : Gat l r) : r.Nodup := h.up.imp fun {a b} hab e => by
  subst e
  have := three_cmpS.rf a
  omega
theorem nodup_le : ∀ {r l : List Sn}, r.Nodup → (∀ s ∈ r, s ∈ l) → r.length ≤ l.length
  | [], l, _, _ => by simp
  | a :: r, l, hn, hs => by
    rw [List.nodup_cons] at hn
    have ha := hs a (List.mem_cons_self ..)
    obtain ⟨p, q, rfl⟩ := List.append_of_mem ha
    have ih := nodup_le (r := r) (l := p ++ q) hn.2 fun s h => by
      have := hs s (List.mem_cons_of_mem _ h)
      rcases List.mem_append.1 this with h1 | h1
      · exact List.mem_append_left _ h1
      · rcases List.mem_cons.1 h1 with h2 | h2
        · subst h2; exact absurd h hn.1
        · exact List.mem_append_right _ h2
    simp only [List.length_append, List.length_cons] at ih ⊢
    omega
theorem Gat.len {l r : List Sn} (h : Gat l r) : r.length ≤ l.length := nodup_le h.nodup h.sub

theorem Sf.lit {w0 W : World} (hB : Below w0.heap.size w0 W) {s : Sn} {d : Value} (hok : s.ok) (hd : Bs w0 d s.data) {H : Nat} (hH : W.heap.size = H) {row : Option Nat} (hr : ∀ g, row = some g → w0.heap.size ≤ g) :
    Sf (W.alloc (.cells #[.int .u64 s.tr, .int .u64 s.id, .int .i64 s.st, .int .i64 s.en, d] 87)) row (.slice (some ⟨H, 0, none⟩) 1 1) [s] := by
  subst hH
  refine ⟨[spCells s d], Lv.lit1 (w := W) (spCells s d) 87, ?_⟩
  refine Two.nil.snoc (l := []) (m := []) ⟨hok, d, rfl, (hd.below hB).alloc _, fun hne e => ?_⟩
  obtain ⟨k, hk, hk'⟩ := hd.block hne
  rw [hk] at e
  have := hr k e.symm
  omega

end Go.Proofs.YtfccfnbmmgfgcaaGreatDoor

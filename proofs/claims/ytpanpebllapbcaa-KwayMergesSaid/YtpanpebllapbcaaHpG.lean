/-
  A HEAP IN MEMORY ('HpM'): its cells, its row and its blocks; over any program. Elements of two and of three cells stored; the end of a row cleared. No condition but what each theorem says.
-/
import Derived.Test.YtpanpebllapbcaaHpF
import Derived.Test.YtpanpebllapbcaaKee
namespace Go.Proofs.Ytpanpebllapbcaa
open Go.RowKit

/-- the cells of what was pushed: its own, and its turn -/
def tuC {α : Type} (C : α → List Value) (z : Turn α) : List Value := C z.1 ++ [.int .u64 (z.2 : Int)]
/-- in the world w the heap in block g has these cells, and this row -/
structure HpM {α : Type} (tH tI : TypeId) (k : Nat) (C : α → List Value) (w : World) (F : Nat → Prop) (g : Nat) (fv : Value) (p : Nat) (a : List (Turn α)) (v : Value) : Prop where
  lt : ∀ q, F q → q < w.heap.size
  Fg : F g
  blk : Blk w g tH #[fv, v, .int .u64 (p : Int)]
  own : OwnL k w 0 tI v (a.map (tuC C))
  Fv : ∀ q, v.ownBlock = some q → F q ∧ q ≠ g
section
variable {α : Type} {tH tI : TypeId} {k : Nat} {C : α → List Value} {w w' : World} {F F' : Nat → Prop} {g p : Nat} {fv v v' : Value} {a a' : List (Turn α)}
theorem HpM.keep (h : HpM tH tI k C w F g fv p a v) (ha : Apt (fun q => ¬ F q) w w') : HpM tH tI k C w' F g fv p a v :=
  ⟨fun q hq => Nat.lt_of_lt_of_le (h.lt q hq) ha.size, h.Fg, (ha.block g h.blk.lt fun hn => hn h.Fg).trans h.blk, h.own.apt ha fun q hq hn => hn (h.Fv q hq).1, h.Fv⟩
theorem HpM.later (h : HpM tH tI k C w F g fv p a v) (hb : Below w.heap.size w w') : HpM tH tI k C w' F g fv p a v := h.keep (Apt.of_below hb)
theorem HpM.drew (h : HpM tH tI k C w F g fv p a v) : HpM tH tI k C w.drew F g fv p a v := h.later (Below.refl _ _).drew
/-- its row turns -/
theorem HpM.row (h : HpM tH tI k C w F g fv p a v) {q : Nat} (hv : v.ownBlock = some q) (hg : w.grownBy w' (some q)) (ho : OwnL k w' 0 tI v (a'.map (tuC C))) : HpM tH tI k C w' F g fv p a' v :=
  ⟨fun z hz => Nat.lt_of_lt_of_le (h.lt z hz) hg.size, h.Fg, h.blk.grown hg (fun e => (h.Fv q hv).2 (by injection e with e; exact e.symm)), ho, h.Fv⟩
theorem HpM.form (h : HpM tH tI k C w F g fv p a v) : (v = .slice none 0 0 ∧ a = []) ∨ ∃ q c, v = .slice (some ⟨q, 0, none⟩) a.length c ∧ a.length ≤ c ∧ c ≤ 9223372036854775807 ∧ (F q ∧ q ≠ g) ∧ q < w.heap.size ∧ ∀ j, w.frozen? ⟨q, j, none⟩ = false := by
  rcases h.own.at_ with ⟨h1, h2⟩ | ⟨q, c, h1, h2, h3, h4, h5, h6⟩
  · exact .inl ⟨h1, by simpa using h2⟩
  · rw [List.length_map] at h1 h2
    exact .inr ⟨q, c, h1, h2, h3, h.Fv q (by rw [h1]; rfl), h5, h6⟩
/-- the cells of one -/
theorem HpM.cell (h : HpM tH tI k C w F g fv p a v) (hk : 0 < k) {q n c : Nat} (hv : v = .slice (some ⟨q, 0, none⟩) n c) {i : Nat} {z : Turn α} (hi : a[i]? = some z) : ∀ j u, (tuC C z)[j]? = some u → w.cell? ⟨q, i * k + j, none⟩ = some u := fun j u hu => by
  have hl := h.own.lv
  rw [hv] at hl
  obtain ⟨g', o, hA, _, hc⟩ := hl.cells hk (i := i) (x := tuC C z) (by rw [List.getElem?_map, hi]; rfl)
  injection hA with hA
  injection hA with e1 e2
  subst e1 e2
  have := hc j u hu
  rwa [Nat.zero_add] at this
theorem HpM.fz (h : HpM tH tI k C w F g fv p a v) {q n c : Nat} (hv : v = .slice (some ⟨q, 0, none⟩) n c) (j : Nat) : w.frozen? ⟨q, j, none⟩ = false := by
  rcases h.own.at_ with ⟨h1, _⟩ | ⟨q', c', h1, _, _, _, _, h6⟩
  · rw [hv] at h1
    cases h1
  · rw [hv] at h1
    injection h1 with h1
    injection h1 with h1
    injection h1 with h1
    subst h1
    exact h6 j
end

theorem OwnL.fz {k : Nat} {w : World} {base : Nat} {e : TypeId} {v : Value} {xs : List (List Value)} (h : OwnL k w base e v xs) {q n c : Nat} (hv : v = .slice (some ⟨q, 0, none⟩) n c) (j : Nat) : w.frozen? ⟨q, j, none⟩ = false := by
  rcases h.at_ with ⟨h1, _⟩ | ⟨q', c', h1, _, _, _, _, h6⟩
  · rw [hv] at h1
    cases h1
  · rw [hv] at h1
    injection h1 with h1
    injection h1 with h1
    injection h1 with h1
    subst h1
    exact h6 j
section
variable {w : World} {base g n c : Nat} {e : TypeId} {xs : List (List Value)}
/-- an element of two cells is stored -/
theorem OwnL.all2 (h : OwnL 2 w base e (.slice (some ⟨g, 0, none⟩) n c) xs) {i : Nat} (hi : i < xs.length) (u0 u1 : Value) :
    OwnL 2 ((w.setCell ⟨g, i * 2, none⟩ u0).setCell ⟨g, i * 2 + 1, none⟩ u1) base e (.slice (some ⟨g, 0, none⟩) n c) (xs.set i [u0, u1]) ∧ w.grownBy ((w.setCell ⟨g, i * 2, none⟩ u0).setCell ⟨g, i * 2 + 1, none⟩ u1) (some g) := by
  have hx : xs[i]? = some xs[i] := List.getElem?_eq_getElem hi
  have hk := h.2 xs[i] (List.getElem_mem hi)
  generalize xs[i] = x at *
  obtain ⟨a0, a1, rfl⟩ : ∃ a0 a1, x = [a0, a1] := by
    match x, hk with
    | [a0, a1], _ => exact ⟨a0, a1, rfl⟩
  obtain ⟨h1, g1⟩ := h.put_ hx (show 0 < 2 by omega) u0
  obtain ⟨h2, g2⟩ := h1.put_ (i := i) (x := [u0, a1]) (by simp [hi]) (show 1 < 2 by omega) u1
  rw [List.set_set] at h2
  exact ⟨h2, grown_trans g1 g2⟩
/-- an element of three cells is stored -/
theorem OwnL.all3 (h : OwnL 3 w base e (.slice (some ⟨g, 0, none⟩) n c) xs) {i : Nat} (hi : i < xs.length) (u0 u1 u2 : Value) :
    OwnL 3 (((w.setCell ⟨g, i * 3, none⟩ u0).setCell ⟨g, i * 3 + 1, none⟩ u1).setCell ⟨g, i * 3 + 2, none⟩ u2) base e (.slice (some ⟨g, 0, none⟩) n c) (xs.set i [u0, u1, u2]) ∧ w.grownBy (((w.setCell ⟨g, i * 3, none⟩ u0).setCell ⟨g, i * 3 + 1, none⟩ u1).setCell ⟨g, i * 3 + 2, none⟩ u2) (some g) := by
  have hx : xs[i]? = some xs[i] := List.getElem?_eq_getElem hi
  have hk := h.2 xs[i] (List.getElem_mem hi)
  generalize xs[i] = x at *
  obtain ⟨a0, a1, a2, rfl⟩ : ∃ a0 a1 a2, x = [a0, a1, a2] := by
    match x, hk with
    | [a0, a1, a2], _ => exact ⟨a0, a1, a2, rfl⟩
  obtain ⟨h1, g1⟩ := h.put_ hx (show 0 < 3 by omega) u0
  obtain ⟨h2, g2⟩ := h1.put_ (i := i) (x := [u0, a1, a2]) (by simp [hi]) (show 1 < 3 by omega) u1
  obtain ⟨h3, g3⟩ := h2.put_ (i := i) (x := [u0, u1, a2]) (by simp [hi]) (show 2 < 3 by omega) u2
  rw [List.set_set, List.set_set] at h3
  exact ⟨h3, grown_trans (grown_trans g1 g2) g3⟩
end

/-- s[:m] of a row of the call's own -/
theorem OwnL.upto {k : Nat} {w : World} {base n c : Nat} {e : TypeId} {A : Option Addr} {xs : List (List Value)} (h : OwnL k w base e (.slice A n c) xs) (m : Nat) (hm : m ≤ xs.length) : OwnL k w base e (.slice A m c) (xs.take m) := by
  have hlen : (xs.take m).length = m := by rw [List.length_take]; omega
  have hk' : ∀ x ∈ xs.take m, x.length = k := fun x hx => h.2 x (List.mem_of_mem_take hx)
  have hfl := flat_length hk'
  rw [hlen] at hfl
  obtain ⟨h1, hk⟩ := h
  refine ⟨⟨by rw [hlen]; exact hfl, ?_⟩, hk'⟩
  rw [hlen]
  rcases h1.2 with ⟨e0, hl⟩ | ⟨g, cap, cur, e0, hb, hg, hnc, hcm, hsz, htk⟩
  · injection e0 with e1 e2 e3
    subst e1 e3
    have : m = 0 := by omega
    subst this
    exact .inl ⟨rfl, rfl⟩
  · injection e0 with e1 e2 e3
    subst e1 e3
    refine .inr ⟨g, _, cur, rfl, hb, hg, by omega, hcm, hsz, ?_⟩
    have hxs : xs.flatten = (xs.take m).flatten ++ (xs.drop m).flatten := by rw [← List.flatten_append, List.take_append_drop]
    have h5 : cur.toList.take (m * k) = (cur.toList.take (xs.length * k)).take (m * k) := by rw [List.take_take, Nat.min_eq_left (Nat.mul_le_mul_right _ hm)]
    rw [h5, htk, hxs, List.take_append_of_le_length (by omega), List.take_of_length_le (by omega)]

/-- a block that is new turns -/
theorem Apt.grown_new {F : Nat → Prop} {w w1 w2 : World} {z : Nat} (ha : Apt F w w1) (hg : w1.grownBy w2 (some z)) (hz : w.heap.size ≤ z) : Apt F w w2 :=
  ⟨hg.os.trans ha.os, hg.tape.trans ha.tape, hg.output.trans ha.output, Nat.le_trans ha.size hg.size, fun g hg' hn => (hg.block g (Nat.lt_of_lt_of_le hg' ha.size) (fun e => by injection e with e; omega)).trans (ha.block g hg' hn)⟩
/-- s[m:] -/
theorem run_slice_end {P : Program} {t e : TypeId} {k bytes : Nat} (HT : ElemT P t e k bytes) (he : P.elem t = e) (q n c m : Nat) (hm : m < n) (hc : n ≤ c) (u : World) : (Instr.slice t (.slice (some ⟨q, 0, none⟩) n c) (some (.int .i64 (m : Int))) none none).run P u = .ok (.slice (some ⟨q, m * k, none⟩) (n - m) (c - m)) u := by
  rw [run_slice_from HT he m (by omega) hc]
  simp [show ¬ c = m by omega, Addr.add_lit]
/-- clear(s[m:]): the first m stay -/
theorem run_clear_own {P : Program} {t e : TypeId} {k bytes : Nat} (HT : ElemT P t e k bytes) {z : Value} (hzero : (P.info? e).bind (·.zero) = some z) (hone : ∀ u ∈ z.cells.toList, u.oneCell' = true) {w : World} {base g n c : Nat} {xs : List (List Value)} (h : OwnL k w base e (.slice (some ⟨g, 0, none⟩) n c) xs) (m : Nat) (hm : m < n) :
    ∃ w', (∀ ty, (Builtin.clear_ #[t] ty #[.slice (some ⟨g, m * k, none⟩) (n - m) (c - m)]).run P w = .ok (.tuple #[]) w') ∧ OwnL k w' base e (.slice (some ⟨g, 0, none⟩) m c) (xs.take m) ∧ w.grownBy w' (some g) := by
  obtain ⟨h1, hk⟩ := h
  rcases h1.2 with ⟨hv, _⟩ | ⟨g', cap, cur, hv, hb, hg, hn, hcm, hcs, htk⟩
  · cases hv
  injection hv with e1 e2 e3
  injection e1 with e1
  injection e1 with e1
  subst e1 e3
  rw [← e2] at hn htk h1
  obtain ⟨i, z', hi, hz, hs, hby, hzs⟩ := HT.info
  have hpos := HT.pos
  rw [hi] at hzero
  simp only [Option.bind_some, hz, Option.some.injEq] at hzero
  subst hzero
  have hone : ∀ v ∈ (Builtin.zeroCells z'.cells (n - m)).toList, v.oneCell' = true := by
    intro v hv
    simp only [Builtin.zeroCells, Array.toList_map, List.mem_map] at hv
    obtain ⟨j, _, rfl⟩ := hv
    have hj : j % z'.cells.size < z'.cells.size := Nat.mod_lt _ (by omega)
    have hmem : z'.cells[j % z'.cells.size] ∈ z'.cells.toList := by simp
    first | exact hone _ hmem | (simp only [Array.getD_eq_getD_getElem?]; rw [Array.getElem?_eq_getElem hj]; exact hone _ hmem) | (rw [getElem!_pos z'.cells _ hj]; exact hone _ hmem)
  have hzl : (Builtin.zeroCells z'.cells (n - m)).toList.length = (n - m) * k := by simp [Builtin.zeroCells, hzs]
  have hle : m * k + (n - m) * k = n * k := by rw [← Nat.add_mul]; congr 1; omega
  have hnc : n * k ≤ c * k := Nat.mul_le_mul_right _ hn
  have hst := run_storeCells_at P g (m * k) e (Builtin.zeroCells z'.cells (n - m)).toList 0 cur w hg (by rw [hzl, hcs]; omega) hone
  have hzv : (zeroValue e).run P w = .ok z' w := by simp [zeroValue, typeInfo, hi, hz]
  have hrun : ∀ ty, (Builtin.clear_ #[t] ty #[.slice (some ⟨g, m * k, none⟩) (n - m) (c - m)]).run P w = .ok (.tuple #[]) (w.setRow g (cur.toList.take (m * k + 0) ++ (Builtin.zeroCells z'.cells (n - m)).toList ++ cur.toList.drop (m * k + 0 + (Builtin.zeroCells z'.cells (n - m)).toList.length)).toArray) := by
    intro ty
    obtain ⟨q, hq⟩ : ∃ q, n - m = q + 1 := ⟨n - m - 1, by omega⟩
    rw [hq] at hst ⊢
    simp only [Builtin.clear_, List.getElem?_toArray, List.getElem?_cons_zero, Sem.run_bind, run_underlying HT.under, Result.andThen_ok, hzv, hst, Sem.run_pure]
  have hgr : w.grownBy (w.setRow g (cur.toList.take (m * k + 0) ++ (Builtin.zeroCells z'.cells (n - m)).toList ++ cur.toList.drop (m * k + 0 + (Builtin.zeroCells z'.cells (n - m)).toList.length)).toArray) (some g) :=
    ⟨rfl, rfl, rfl, by simp [World.setRow], fun k' _ hk' => setRow_other w g k' _ (fun e => hk' (by simp [e]))⟩
  refine ⟨_, hrun, ⟨?_, fun x hx => hk x (List.mem_of_mem_take hx)⟩, hgr⟩
  have hlm : (xs.take m).length = m := by rw [List.length_take]; omega
  have hfl := flat_length (xs := xs.take m) (k := k) fun x hx => hk x (List.mem_of_mem_take hx)
  rw [hlm] at hfl ⊢
  refine ⟨hfl, .inr ⟨g, c, _, rfl, hb, setRow_heap w g cur _ _ _ hg, by omega, hcm, ?_, ?_⟩⟩
  · simp only [List.size_toArray, List.length_append, hzl, List.length_take, List.length_drop, Array.length_toList]
    omega
  · simp only [Nat.add_zero]
    rw [List.append_assoc, List.take_append_of_le_length (by rw [List.length_take, Array.length_toList]; omega), List.take_take, Nat.min_self]
    have hxs : xs.flatten = (xs.take m).flatten ++ (xs.drop m).flatten := by rw [← List.flatten_append, List.take_append_drop]
    have h5 : cur.toList.take (m * k) = (cur.toList.take (n * k)).take (m * k) := by rw [List.take_take, Nat.min_eq_left (by omega)]
    rw [h5, htk, hxs, List.take_append_of_le_length (by omega), List.take_of_length_le (by omega)]
end Go.Proofs.Ytpanpebllapbcaa

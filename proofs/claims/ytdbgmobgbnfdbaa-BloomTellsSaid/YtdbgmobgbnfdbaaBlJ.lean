/-
  THE DOCUMENT's FILTER in memory ('DBq': rows of bits, each in a block of its own), and CONTRACTS of its Right and New. Conditions: what each says.
-/
import Derived.Test.YtdbgmobgbnfdbaaBlB
import Derived.Deep.DeepCutAuto
namespace Go.Proofs.Ytdbgmobgbnfdbaa
open Go.RowKit
set_option maxRecDepth 100000

theorem boolT1 : ElemT Try.prog 50 4 1 1 := ⟨Try.underlying50, by omega, by
  obtain ⟨i, h1, h2, h3, h4⟩ := info_parts (P := Try.prog) (e := 4) (z := .bool false) (size := 1) (bytes := 1) (by kernel_rfl)
  exact ⟨i, _, h1, h2, h3, h4, rfl⟩⟩
theorem boolsT1 : ElemT Try.prog 47 50 1 24 := ⟨Try.underlying47, by omega, by
  obtain ⟨i, h1, h2, h3, h4⟩ := info_parts (P := Try.prog) (e := 50) (z := .slice none 0 0) (size := 1) (bytes := 24) (by kernel_rfl)
  exact ⟨i, _, h1, h2, h3, h4, rfl⟩⟩
/-- make([]bool, n) -/
theorem run_make_bools (n : Nat) (hn : n ≤ 1000000) (u : World) :
    (Instr.makeSlice 50 (.int .i64 (n : Int)) (.int .i64 (n : Int))).run Try.prog u = .ok (.slice (some ⟨u.heap.size, 0, none⟩) n n) (u.alloc (.cells (madeCells #[.bool false] n) 4)) := by
  obtain ⟨i, hi, hz, h1, h2⟩ := info_parts (P := Try.prog) (e := 4) (z := .bool false) (size := 1) (bytes := 1) (by kernel_rfl)
  have h := run_make (P := Try.prog) u 50 4 i (.bool false) Try.underlying50 hi hz .i64 .i64 (n : Int) (n : Int) (by omega) (by omega) (by rw [h2]; omega) (by omega)
  simp only [Int.toNat_natCast] at h
  simpa [h1, Value.cells] using h
theorem ownL_zeros (u : World) (base n : Nat) (x : Value) (e : TypeId) (hn : n ≤ 1000000) (hb : base ≤ u.heap.size) : OwnL 1 (u.alloc (.cells (madeCells #[x] n) e)) base e (.slice (some ⟨u.heap.size, 0, none⟩) n n) (List.replicate n [x]) := by
  have hs : (madeCells #[x] n).size = n * 1 := by simp [madeCells]
  have h := World.ownsRow_lit (base := base) (e := e) (size := 1) u (madeCells #[x] n) n hb (by simp only [maxLen]; omega) hs
  rw [toList_madeCells_one] at h
  refine ⟨?_, fun y hy => by rw [(List.mem_replicate.1 hy).2]; rfl⟩
  have e1 : (List.replicate n [x]).flatten = List.replicate n x := by simp
  rw [List.length_replicate, e1]
  exact h

/-- a bit, as cells -/
def bC (x : Bool) : List Value := [.bool x]
/-- a row of bits, in the block q -/
def DRow (w : World) (q n : Nat) (B : Nat → Bool) : Prop := OwnL 1 w 0 4 (.slice (some ⟨q, 0, none⟩) n n) ((List.range n).map fun p => bC (B p))
/-- the rows, as cells of slices -/
def rowsC (s n : Nat) (q : Nat → Nat) : List (List Value) := (List.range s).map fun i => [.slice (some ⟨q i, 0, none⟩) n n]
theorem rowsC_length (s n : Nat) (q : Nat → Nat) : (rowsC s n q).length = s := by simp [rowsC]
section
variable {w w' : World} {q n : Nat} {B B' : Nat → Bool}
theorem DRow.lt (h : DRow w q n B) : q < w.heap.size := OwnL.lt h q rfl
theorem DRow.kept {row : Option Nat} (h : DRow w q n B) (hg : w.grownBy w' row) (hr : row ≠ some q) : DRow w' q n B := OwnL.kept h hg (.inr fun e => hr (by simpa [Value.ownBlock] using e.symm))
theorem DRow.apt {bad : Nat → Prop} (h : DRow w q n B) (ha : Apt bad w w') (hb : ¬ bad q) : DRow w' q n B := OwnL.apt h ha fun z hz => by
  have : z = q := by simpa [Value.ownBlock] using hz.symm
  rwa [this]
theorem DRow.same (h : DRow w q n B) (he : ∀ p, p < n → B' p = B p) : DRow w q n B' := by
  unfold DRow at h ⊢
  rwa [List.map_congr_left fun p hp => by rw [he p (List.mem_range.1 hp)]]
theorem DRow.cell (h : DRow w q n B) {p : Nat} (hp : p < n) : w.cell? ⟨q, p, none⟩ = some (.bool (B p)) ∧ w.frozen? ⟨q, p, none⟩ = false := by
  obtain ⟨g, o, e, _, hc⟩ := (OwnL.lv h).cells (by omega) (i := p) (x := bC (B p)) (by rw [List.getElem?_map, List.getElem?_range hp]; rfl)
  injection e with e
  injection e with e1 e2
  subst e1 e2
  refine ⟨by simpa using hc 0 _ rfl, ?_⟩
  rcases OwnL.at_ h with ⟨e, _⟩ | ⟨g', c', e, _, _, _, _, hf⟩
  · cases e
  · injection e with e
    injection e with e
    injection e with e
    subst e
    exact hf p
theorem DRow.put_ (h : DRow w q n B) {p : Nat} (hp : p < n) (v : Bool) : DRow (w.setCell ⟨q, p, none⟩ (.bool v)) q n (fun z => if z = p then v else B z) ∧ w.grownBy (w.setCell ⟨q, p, none⟩ (.bool v)) (some q) := by
  obtain ⟨h1, h2⟩ := OwnL.put_ h (i := p) (j := 0) (x := bC (B p)) (by rw [List.getElem?_map, List.getElem?_range hp]; rfl) (by omega) (.bool v)
  rw [show p * 1 + 0 = p by omega] at h1 h2
  refine ⟨?_, h2⟩
  unfold DRow
  have e : ((List.range n).map fun z => bC (B z)).set p ((bC (B p)).set 0 (.bool v)) = (List.range n).map fun z => bC (if z = p then v else B z) := by
    refine List.ext_getElem? fun z => ?_
    rw [List.getElem?_set, List.getElem?_map, List.getElem?_map]
    rcases Nat.lt_or_ge z n with hz | hz
    · rw [List.getElem?_range hz]
      by_cases e : p = z
      · subst e
        rw [if_pos rfl, if_pos (by simpa using hp)]
        simp [bC]
      · rw [if_neg e]
        have : ¬ z = p := fun h => e h.symm
        simp [this]
    · rw [if_neg (by omega), List.getElem?_eq_none (by simpa using hz)]
      rfl
  rw [← e]
  exact h1
end

/-- in the world w the document's filter in block g has these bits: its row of rows lies in the block r, and its rows in the blocks q -/
structure DBq (w : World) (g r c : Nat) (q : Nat → Nat) (s n hs : Nat) (B : Nat → Bool) : Prop where
  blk : Blk w g 49 #[.int .i64 (n : Int), .int .i64 (hs : Int), .slice (some ⟨r, 0, none⟩) s c]
  row : OwnL 1 w 0 50 (.slice (some ⟨r, 0, none⟩) s c) (rowsC s n q)
  bits : ∀ i, i < s → DRow w (q i) n fun p => B (i * n + p)
  gr : g ≠ r
  qg : ∀ i, i < s → q i ≠ g
  qr : ∀ i, i < s → q i ≠ r
  qq : ∀ i j, i < s → j < s → q i = q j → i = j
section
variable {w w' : World} {g r c s n hs : Nat} {q : Nat → Nat} {B B' : Nat → Bool}
theorem DBq.apt {bad : Nat → Prop} (h : DBq w g r c q s n hs B) (ha : Apt bad w w') (hb : ∀ z, bad z → z ≠ g ∧ z ≠ r ∧ ∀ i, i < s → z ≠ q i) : DBq w' g r c q s n hs B :=
  ⟨(ha.block g h.blk.lt fun hn => (hb g hn).1 rfl).trans h.blk, h.row.apt ha fun z hz hn => (hb z hn).2.1 (by simpa [Value.ownBlock] using hz.symm), fun i hi => (h.bits i hi).apt ha fun hn => (hb _ hn).2.2 i hi rfl, h.gr, h.qg, h.qr, h.qq⟩
theorem DBq.below (h : DBq w g r c q s n hs B) (hb : Below w.heap.size w w') : DBq w' g r c q s n hs B := h.apt (bad := fun _ => False) (Apt.of_below hb) fun _ h => h.elim
theorem DBq.same (h : DBq w g r c q s n hs B) (he : ∀ z, z < s * n → B' z = B z) : DBq w g r c q s n hs B' :=
  ⟨h.blk, h.row, fun i hi => (h.bits i hi).same fun _ hp => he _ (shard_lt hi hp), h.gr, h.qg, h.qr, h.qq⟩
theorem DBq.rowc (h : DBq w g r c q s n hs B) {i : Nat} (hi : i < s) : w.cell? ⟨r, i, none⟩ = some (.slice (some ⟨q i, 0, none⟩) n n) := by
  obtain ⟨g', o, e, _, hc⟩ := h.row.lv.cells (by omega) (i := i) (x := [.slice (some ⟨q i, 0, none⟩) n n]) (by rw [rowsC, List.getElem?_map, List.getElem?_range hi]; rfl)
  injection e with e
  injection e with e1 e2
  subst e1 e2
  simpa using hc 0 _ rfl
theorem DBq.put_ (h : DBq w g r c q s n hs B) {i p : Nat} (hi : i < s) (hp : p < n) (v : Bool) (B' : Nat → Bool) (hB : ∀ z, z < s * n → B' z = if z = i * n + p then v else B z) :
    DBq (w.setCell ⟨q i, p, none⟩ (.bool v)) g r c q s n hs B' ∧ w.grownBy (w.setCell ⟨q i, p, none⟩ (.bool v)) (some (q i)) := by
  obtain ⟨h1, h2⟩ := (h.bits i hi).put_ hp v
  refine ⟨⟨h.blk.far (fun e => h.qg i hi e.symm) _, h.row.kept h2 (.inr fun e => h.qr i hi (by simpa [Value.ownBlock] using e.symm)), fun j hj => ?_, h.gr, h.qg, h.qr, h.qq⟩, h2⟩
  by_cases e : j = i
  · subst e
    refine h1.same fun z hz => ?_
    rw [hB _ (shard_lt hj hz)]
    by_cases e : z = p
    · subst e
      simp
    · rw [if_neg (by omega), if_neg e]
  · refine ((h.bits j hj).kept h2 fun e' => e (h.qq j i hj hi (by injection e' with e'; exact e'.symm))).same fun z hz => ?_
    rw [hB _ (shard_lt hj hz), if_neg]
    intro e'
    rcases Nat.lt_or_gt_of_ne e with h3 | h3
    · have := Nat.mul_le_mul_right n (show j + 1 ≤ i by omega)
      rw [Nat.succ_mul] at this
      omega
    · have := Nat.mul_le_mul_right n (show i + 1 ≤ j by omega)
      rw [Nat.succ_mul] at this
      omega
end

/-- in the world w the document's filter in block g is b, and lies in the blocks F -/
def DB (w : World) (F : Nat → Prop) (g : Nat) (b : Bl) : Prop := b.Ok ∧ ∃ (r c : Nat) (q : Nat → Nat), DBq w g r c q b.sh b.bits b.hs (bitAt b.set) ∧ ∀ z, F z ↔ z = g ∨ z = r ∨ ∃ i, i < b.sh ∧ z = q i
theorem DB.thing (g : Nat) (b : Bl) : Thing fun w F => DB w F g b where
  keep := fun ⟨h1, r, c, q, h2, h3⟩ ha => ⟨h1, r, c, q, h2.apt ha fun z hz => ⟨fun e => hz ((h3 z).2 (.inl e)), fun e => hz ((h3 z).2 (.inr (.inl e))), fun i hi e => hz ((h3 z).2 (.inr (.inr ⟨i, hi, e⟩)))⟩, h3⟩
  lt := fun ⟨_, r, c, q, h2, h3⟩ z hz => by
    rcases (h3 z).1 hz with rfl | rfl | ⟨i, hi, rfl⟩
    · exact h2.blk.lt
    · exact h2.row.lt _ rfl
    · exact (h2.bits i hi).lt

set_option maxHeartbeats 800000 in
theorem Right_any (s b h : Int) (w : World) : Calls Try.prog 8 #[.int .i64 s, .int .i64 b, .int .i64 h] w fun e w' => e = .returned (.bool (rightI s b h)) ∧ w = w' := by
  by_cases h1 : 1 ≤ s
  · by_cases h2 : s ≤ 16
    · by_cases h3 : 8 ≤ b
      · by_cases h4 : b ≤ 4096
        · obtain ⟨r, hr⟩ : ∃ r, b % 8 = r := ⟨_, rfl⟩
          by_cases h5 : r = 0
          · subst h5
            by_cases h6 : 1 ≤ h
            · by_cases h7 : h ≤ 8
              · have HE : Hid (rightI s b h = true) := Lib.hid (rightI_iff.2 ⟨h1, h2, h3, h4, hr, h6, h7⟩)
                go_enter Try.func8, Try.ntmps8
                go_wp2_with fail
                go_ret
                exact ⟨ret_bool HE.out.symm, rfl⟩
              · have HE : Hid (rightI s b h = false) := Lib.hid (by rw [← Bool.not_eq_true, rightI_iff]; omega)
                go_enter Try.func8, Try.ntmps8
                go_wp2_with fail
                go_ret
                exact ⟨ret_bool HE.out.symm, rfl⟩
            · have HE : Hid (rightI s b h = false) := Lib.hid (by rw [← Bool.not_eq_true, rightI_iff]; omega)
              go_enter Try.func8, Try.ntmps8
              go_wp2_with fail
              go_ret
              exact ⟨ret_bool HE.out.symm, rfl⟩
          · have HE : Hid (rightI s b h = false) := Lib.hid (by rw [← Bool.not_eq_true, rightI_iff]; omega)
            have hr5 : (r == 0) = false := by simpa using h5
            go_enter Try.func8, Try.ntmps8
            go_wp2_with fail
            go_ret
            exact ⟨ret_bool HE.out.symm, rfl⟩
        · have HE : Hid (rightI s b h = false) := Lib.hid (by rw [← Bool.not_eq_true, rightI_iff]; omega)
          go_enter Try.func8, Try.ntmps8
          go_wp2_with fail
          go_ret
          exact ⟨ret_bool HE.out.symm, rfl⟩
      · have HE : Hid (rightI s b h = false) := Lib.hid (by rw [← Bool.not_eq_true, rightI_iff]; omega)
        go_enter Try.func8, Try.ntmps8
        go_wp2_with fail
        go_ret
        exact ⟨ret_bool HE.out.symm, rfl⟩
    · have HE : Hid (rightI s b h = false) := Lib.hid (by rw [← Bool.not_eq_true, rightI_iff]; omega)
      go_enter Try.func8, Try.ntmps8
      go_wp2_with fail
      go_ret
      exact ⟨ret_bool HE.out.symm, rfl⟩
  · have HE : Hid (rightI s b h = false) := Lib.hid (by rw [← Bool.not_eq_true, rightI_iff]; omega)
    go_enter Try.func8, Try.ntmps8
    go_wp2_with fail
    go_ret
    exact ⟨ret_bool HE.out.symm, rfl⟩
end Go.Proofs.Ytdbgmobgbnfdbaa

/-
  THE DOCUMENT's FILTER in memory ('DBq': rows of bits, each in a block of its own), and CONTRACTS of its Right and New. Conditions: what each says.
  THE DOCUMENT's FILTER: CONTRACTS of Places, Add, Has. Conditions: what each says.
  THE DOCUMENT's FILTER: CONTRACTS of Add, Has. Conditions: what each says.
  THE DOCUMENT's FILTER: the CONTRACT of New. Conditions: what it says.
  THE DOCUMENT's FILTER: the CONTRACT of Bytes. Conditions: what it says.
-/
import Derived.Test.YtfccfnbmmgfgcaaGreatDoorBlA
import Derived.Deep.DeepCutAuto
namespace Go.Proofs.YtfccfnbmmgfgcaaGreatDoor
open Go.RowKit
set_option maxRecDepth 100000

theorem boolsT1 : ElemT Tryz.prog 172 175 1 24 := ⟨Tryz.underlying172, by omega, by
  obtain ⟨i, h1, h2, h3, h4⟩ := info_parts (P := Tryz.prog) (e := 175) (z := .slice none 0 0) (size := 1) (bytes := 24) (by kernel_rfl)
  exact ⟨i, _, h1, h2, h3, h4, rfl⟩⟩
theorem run_make_bools (n : Nat) (hn : n ≤ 1000000) (u : World) :
    (Instr.makeSlice 175 (.int .i64 (n : Int)) (.int .i64 (n : Int))).run Tryz.prog u = .ok (.slice (some ⟨u.heap.size, 0, none⟩) n n) (u.alloc (.cells (madeCells #[.bool false] n) 4)) := by
  obtain ⟨i, hi, hz, h1, h2⟩ := info_parts (P := Tryz.prog) (e := 4) (z := .bool false) (size := 1) (bytes := 1) (by kernel_rfl)
  have h := run_make (P := Tryz.prog) u 175 4 i (.bool false) Tryz.underlying175 hi hz .i64 .i64 (n : Int) (n : Int) (by omega) (by omega) (by rw [h2]; omega) (by omega)
  simp only [Int.toNat_natCast] at h
  simpa [h1, Value.cells] using h
theorem ownL_zeros (u : World) (base n : Nat) (x : Value) (e : TypeId) (hn : n ≤ 1000000) (hb : base ≤ u.heap.size) : OwnL 1 (u.alloc (.cells (madeCells #[x] n) e)) base e (.slice (some ⟨u.heap.size, 0, none⟩) n n) (List.replicate n [x]) := by
  have hs : (madeCells #[x] n).size = n * 1 := by simp [madeCells]
  have h := World.ownsRow_lit (base := base) (e := e) (size := 1) u (madeCells #[x] n) n hb (by simp only [maxLen]; omega) hs
  rw [toList_madeCells_one] at h
  refine ⟨?_, fun y hy => by rw [(List.mem_replicate.1 hy).2]; rfl⟩
  have e1 : (List.replicate n [x]).flatten = List.replicate n x := by simp
  rw [List.length_replicate, e1]
  exact h

def bC (x : Bool) : List Value := [.bool x]
def DRow (w : World) (q n : Nat) (B : Nat → Bool) : Prop := OwnL 1 w 0 4 (.slice (some ⟨q, 0, none⟩) n n) ((List.range n).map fun p => bC (B p))
def rowsC (s n : Nat) (q : Nat → Nat) : List (List Value) := (List.range s).map fun i => [.slice (some ⟨q i, 0, none⟩) n n]
theorem rowsC_length (s n : Nat) (q : Nat → Nat) : (rowsC s n q).length = s := by simp [rowsC]
section
variable {w w' : World} {q n : Nat} {B B' : Nat → Bool}
theorem DRow.lt (h : DRow w q n B) : q < w.heap.size := OwnL.lt h q rfl
theorem DRow.kept {row : Option Nat} (h : DRow w q n B) (hg : w.grownBy w' row) (hr : row ≠ some q) : DRow w' q n B := OwnL.kept h hg (.inr fun e => hr (by simpa [Value.ownBlock] using e.symm))
theorem DRow.apt {bad : Nat → Prop} (h : DRow w q n B) (ha : Apt bad w w') (hb : ¬ bad q) : DRow w' q n B := OwnL.apt h ha fun z hz => by
  have : z = q := by simpa [Value.ownBlock] using hz.symm
  rwa [this]
theorem DRow.same (h : DRow w q n B) (he : ∀ p, p < n → B' p = B p) : DRow w q n B' := by
  unfold DRow at h ⊢
  rwa [List.map_congr_left fun p hp => by rw [he p (List.mem_range.1 hp)]]
theorem DRow.cell (h : DRow w q n B) {p : Nat} (hp : p < n) : w.cell? ⟨q, p, none⟩ = some (.bool (B p)) ∧ w.frozen? ⟨q, p, none⟩ = false := by
  obtain ⟨g, o, e, _, hc⟩ := (OwnL.lv h).cells (by omega) (i := p) (x := bC (B p)) (by rw [List.getElem?_map, List.getElem?_range hp]; rfl)
  injection e with e
  injection e with e1 e2
  subst e1 e2
  refine ⟨by simpa using hc 0 _ rfl, ?_⟩
  rcases OwnL.at_ h with ⟨e, _⟩ | ⟨g', c', e, _, _, _, _, hf⟩
  · cases e
  · injection e with e
    injection e with e
    injection e with e
    subst e
    exact hf p
theorem DRow.put_ (h : DRow w q n B) {p : Nat} (hp : p < n) (v : Bool) : DRow (w.setCell ⟨q, p, none⟩ (.bool v)) q n (fun z => if z = p then v else B z) ∧ w.grownBy (w.setCell ⟨q, p, none⟩ (.bool v)) (some q) := by
  obtain ⟨h1, h2⟩ := OwnL.put_ h (i := p) (j := 0) (x := bC (B p)) (by rw [List.getElem?_map, List.getElem?_range hp]; rfl) (by omega) (.bool v)
  rw [show p * 1 + 0 = p by omega] at h1 h2
  refine ⟨?_, h2⟩
  unfold DRow
  have e : ((List.range n).map fun z => bC (B z)).set p ((bC (B p)).set 0 (.bool v)) = (List.range n).map fun z => bC (if z = p then v else B z) := by
    refine List.ext_getElem? fun z => ?_
    rw [List.getElem?_set, List.getElem?_map, List.getElem?_map]
    rcases Nat.lt_or_ge z n with hz | hz
    · rw [List.getElem?_range hz]
      by_cases e : p = z
      · subst e
        rw [if_pos rfl, if_pos (by simpa using hp)]
        simp [bC]
      · rw [if_neg e]
        have : ¬ z = p := fun h => e h.symm
        simp [this]
    · rw [if_neg (by omega), List.getElem?_eq_none (by simpa using hz)]
      rfl
  rw [← e]
  exact h1
end

structure DBq (w : World) (g r c : Nat) (q : Nat → Nat) (s n hs : Nat) (B : Nat → Bool) : Prop where
  blk : Blk w g 174 #[.int .i64 (n : Int), .int .i64 (hs : Int), .slice (some ⟨r, 0, none⟩) s c]
  row : OwnL 1 w 0 175 (.slice (some ⟨r, 0, none⟩) s c) (rowsC s n q)
  bits : ∀ i, i < s → DRow w (q i) n fun p => B (i * n + p)
  gr : g ≠ r
  qg : ∀ i, i < s → q i ≠ g
  qr : ∀ i, i < s → q i ≠ r
  qq : ∀ i j, i < s → j < s → q i = q j → i = j
section
variable {w w' : World} {g r c s n hs : Nat} {q : Nat → Nat} {B B' : Nat → Bool}
theorem DBq.apt {bad : Nat → Prop} (h : DBq w g r c q s n hs B) (ha : Apt bad w w') (hb : ∀ z, bad z → z ≠ g ∧ z ≠ r ∧ ∀ i, i < s → z ≠ q i) : DBq w' g r c q s n hs B :=
  ⟨(ha.block g h.blk.lt fun hn => (hb g hn).1 rfl).trans h.blk, h.row.apt ha fun z hz hn => (hb z hn).2.1 (by simpa [Value.ownBlock] using hz.symm), fun i hi => (h.bits i hi).apt ha fun hn => (hb _ hn).2.2 i hi rfl, h.gr, h.qg, h.qr, h.qq⟩
theorem DBq.below (h : DBq w g r c q s n hs B) (hb : Below w.heap.size w w') : DBq w' g r c q s n hs B := h.apt (bad := fun _ => False) (Apt.of_below hb) fun _ h => h.elim
theorem DBq.same (h : DBq w g r c q s n hs B) (he : ∀ z, z < s * n → B' z = B z) : DBq w g r c q s n hs B' :=
  ⟨h.blk, h.row, fun i hi => (h.bits i hi).same fun _ hp => he _ (shard_lt hi hp), h.gr, h.qg, h.qr, h.qq⟩
theorem DBq.rowc (h : DBq w g r c q s n hs B) {i : Nat} (hi : i < s) : w.cell? ⟨r, i, none⟩ = some (.slice (some ⟨q i, 0, none⟩) n n) := by
  obtain ⟨g', o, e, _, hc⟩ := h.row.lv.cells (by omega) (i := i) (x := [.slice (some ⟨q i, 0, none⟩) n n]) (by rw [rowsC, List.getElem?_map, List.getElem?_range hi]; rfl)
  injection e with e
  injection e with e1 e2
  subst e1 e2
  simpa using hc 0 _ rfl
theorem DBq.put_ (h : DBq w g r c q s n hs B) {i p : Nat} (hi : i < s) (hp : p < n) (v : Bool) (B' : Nat → Bool) (hB : ∀ z, z < s * n → B' z = if z = i * n + p then v else B z) :
    DBq (w.setCell ⟨q i, p, none⟩ (.bool v)) g r c q s n hs B' ∧ w.grownBy (w.setCell ⟨q i, p, none⟩ (.bool v)) (some (q i)) := by
  obtain ⟨h1, h2⟩ := (h.bits i hi).put_ hp v
  refine ⟨⟨h.blk.far (fun e => h.qg i hi e.symm) _, h.row.kept h2 (.inr fun e => h.qr i hi (by simpa [Value.ownBlock] using e.symm)), fun j hj => ?_, h.gr, h.qg, h.qr, h.qq⟩, h2⟩
  by_cases e : j = i
  · subst e
    refine h1.same fun z hz => ?_
    rw [hB _ (shard_lt hj hz)]
    by_cases e : z = p
    · subst e
      simp
    · rw [if_neg (by omega), if_neg e]
  · refine ((h.bits j hj).kept h2 fun e' => e (h.qq j i hj hi (by injection e' with e'; exact e'.symm))).same fun z hz => ?_
    rw [hB _ (shard_lt hj hz), if_neg]
    intro e'
    rcases Nat.lt_or_gt_of_ne e with h3 | h3
    · have := Nat.mul_le_mul_right n (show j + 1 ≤ i by omega)
      rw [Nat.succ_mul] at this
      omega
    · have := Nat.mul_le_mul_right n (show i + 1 ≤ j by omega)
      rw [Nat.succ_mul] at this
      omega
end

def DB (w : World) (F : Nat → Prop) (g : Nat) (b : Bl) : Prop := b.Ok ∧ ∃ (r c : Nat) (q : Nat → Nat), DBq w g r c q b.sh b.bits b.hs (bitAt b.set) ∧ ∀ z, F z ↔ z = g ∨ z = r ∨ ∃ i, i < b.sh ∧ z = q i
theorem DB.thing (g : Nat) (b : Bl) : Thing fun w F => DB w F g b where
  keep := fun ⟨h1, r, c, q, h2, h3⟩ ha => ⟨h1, r, c, q, h2.apt ha fun z hz => ⟨fun e => hz ((h3 z).2 (.inl e)), fun e => hz ((h3 z).2 (.inr (.inl e))), fun i hi e => hz ((h3 z).2 (.inr (.inr ⟨i, hi, e⟩)))⟩, h3⟩
  lt := fun ⟨_, r, c, q, h2, h3⟩ z hz => by
    rcases (h3 z).1 hz with rfl | rfl | ⟨i, hi, rfl⟩
    · exact h2.blk.lt
    · exact h2.row.lt _ rfl
    · exact (h2.bits i hi).lt

set_option maxHeartbeats 800000 in
theorem Right_any (s b h : Int) (w : World) : Calls Tryz.prog 101 #[.int .i64 s, .int .i64 b, .int .i64 h] w fun e w' => e = .returned (.bool (rightI s b h)) ∧ w = w' := by
  by_cases h1 : 1 ≤ s
  · by_cases h2 : s ≤ 16
    · by_cases h3 : 8 ≤ b
      · by_cases h4 : b ≤ 4096
        · obtain ⟨r, hr⟩ : ∃ r, b % 8 = r := ⟨_, rfl⟩
          by_cases h5 : r = 0
          · subst h5
            by_cases h6 : 1 ≤ h
            · by_cases h7 : h ≤ 8
              · have HE : Hid (rightI s b h = true) := Lib.hid (rightI_iff.2 ⟨h1, h2, h3, h4, hr, h6, h7⟩)
                go_enter Tryz.func101, Tryz.ntmps101
                go_wp2_with fail
                go_ret
                exact ⟨ret_bool HE.out.symm, rfl⟩
              · have HE : Hid (rightI s b h = false) := Lib.hid (by rw [← Bool.not_eq_true, rightI_iff]; omega)
                go_enter Tryz.func101, Tryz.ntmps101
                go_wp2_with fail
                go_ret
                exact ⟨ret_bool HE.out.symm, rfl⟩
            · have HE : Hid (rightI s b h = false) := Lib.hid (by rw [← Bool.not_eq_true, rightI_iff]; omega)
              go_enter Tryz.func101, Tryz.ntmps101
              go_wp2_with fail
              go_ret
              exact ⟨ret_bool HE.out.symm, rfl⟩
          · have HE : Hid (rightI s b h = false) := Lib.hid (by rw [← Bool.not_eq_true, rightI_iff]; omega)
            have hr5 : (r == 0) = false := by simpa using h5
            go_enter Tryz.func101, Tryz.ntmps101
            go_wp2_with fail
            go_ret
            exact ⟨ret_bool HE.out.symm, rfl⟩
        · have HE : Hid (rightI s b h = false) := Lib.hid (by rw [← Bool.not_eq_true, rightI_iff]; omega)
          go_enter Tryz.func101, Tryz.ntmps101
          go_wp2_with fail
          go_ret
          exact ⟨ret_bool HE.out.symm, rfl⟩
      · have HE : Hid (rightI s b h = false) := Lib.hid (by rw [← Bool.not_eq_true, rightI_iff]; omega)
        go_enter Tryz.func101, Tryz.ntmps101
        go_wp2_with fail
        go_ret
        exact ⟨ret_bool HE.out.symm, rfl⟩
    · have HE : Hid (rightI s b h = false) := Lib.hid (by rw [← Bool.not_eq_true, rightI_iff]; omega)
      go_enter Tryz.func101, Tryz.ntmps101
      go_wp2_with fail
      go_ret
      exact ⟨ret_bool HE.out.symm, rfl⟩
  · have HE : Hid (rightI s b h = false) := Lib.hid (by rw [← Bool.not_eq_true, rightI_iff]; omega)
    go_enter Tryz.func101, Tryz.ntmps101
    go_wp2_with fail
    go_ret
    exact ⟨ret_bool HE.out.symm, rfl⟩

theorem intT1 : ElemT Tryz.prog 176 3 1 8 := ⟨Tryz.underlying176, by omega, by
  obtain ⟨i, h1, h2, h3, h4⟩ := info_parts (P := Tryz.prog) (e := 3) (z := .int .i64 0) (size := 1) (bytes := 8) (by kernel_rfl)
  exact ⟨i, _, h1, h2, h3, h4, rfl⟩⟩

def spotsC (b : Bl) (id k : Nat) : List (List Value) := (List.range k).map fun i => [.int .i64 (b.spot id i : Int)]
theorem spotsC_length (b : Bl) (id k : Nat) : (spotsC b id k).length = k := by simp [spotsC]
theorem spotsC_succ (b : Bl) (id k : Nat) : spotsC b id (k + 1) = spotsC b id k ++ [[.int .i64 (b.spot id k : Int)]] := by simp [spotsC, List.range_succ]

set_option maxHeartbeats 1600000 in
theorem Places_any {w : World} {g r c : Nat} {q : Nat → Nat} {B : Nat → Bool} {b : Bl} (hok : b.Ok) (h : DBq w g r c q b.sh b.bits b.hs B) (id : Nat) (hid : id < 18446744073709551616) :
    Calls Tryz.prog 104 #[.pointer (some ⟨g, 0, none⟩), .int .u64 (id : Int)] w fun e w' => ∃ v, e = .returned (.tuple #[.int .i64 ((id % b.sh : Nat) : Int), v]) ∧ OwnL 1 w' w.heap.size 3 v (spotsC b id b.hs) ∧ Below w.heap.size w w' := by
  have hA := sumA_lt id
  have hB := sumB_lt id
  have hs1 := hok.s1
  have hs2 := hok.s2
  have hb1 := hok.b1
  have hb2 := hok.b2
  have hh2 := hok.h2
  obtain ⟨x, hx⟩ : ∃ x, id % b.sh = x := ⟨_, rfl⟩
  have hxl : x < b.sh := hx ▸ Nat.mod_lt _ (by omega)
  have hx' : (id : Int) % (b.sh : Int) = (x : Int) := by rw [← hx]; omega
  rw [hx]
  have H := Lib.hid h
  have HSP : Hid (∀ k, (sumA id + k * sumB id) % b.bits = b.spot id k) := Lib.hid fun _ => rfl
  have HX := Lib.hid hx'
  have HOk := Lib.hid hok
  have hBy := Bytes_any 8 (id : Int) w (by omega) (by omega) (by omega) (by omega)
  rw [Int.toNat_natCast, show Int.toNat 8 = 8 from rfl] at hBy
  have HE1 : Hid (crcOf (bet id 8) = sumA id) := Lib.hid rfl
  have HE2 : Hid (crcOf (bet id 8 ++ [1]) = sumB id) := Lib.hid rfl
  have hbl := bet_length id 8
  clear h hx hx' hok
  go_enter Tryz.func104, Tryz.ntmps104
  go_wp2_with fail
  refine hBy.mono ?_
  rintro e w1 ⟨v1, rfl, ho1, hb1'⟩
  have HB1 := Lib.hid hb1'
  have HO1 := Lib.hid ho1
  have hS := Sum_any (bet id 8) v1 w1 ho1.bs
  rw [HE1.out] at hS
  clear hBy ho1 hb1'
  go_wp2_with fail
  refine hS.mono ?_
  rintro e w2 ⟨rfl, rfl⟩
  clear hS
  go_wp2_with (at_builtin; refine wpList_append_v _ byteT rfl _ _ rfl w.heap.size v1 (bet id 8) rfl (HO1.out.alloc _) _ [1] rfl (Bs.lit1 _ 1 _ _ rfl) (by simp only [List.length_singleton]; omega) (Nat.le_trans HB1.out.size (by simp)) ?_)
  intro v2 w2 ho2 hg2 _
  have HB2 := Lib.hid ((HB1.out.alloc HB1.out.size _).grown hg2 (Nat.le_trans HB1.out.size (by simp)) HO1.out.ge)
  have hS := Sum_any (bet id 8 ++ [1]) v2 w2 ho2.bs
  rw [HE2.out] at hS
  clear ho2 hg2
  go_wp2_with fail
  refine hS.mono ?_
  rintro e w3 ⟨rfl, rfl⟩
  clear hS
  go_wp2_with fail
  go_loopg [7, 9, 10] b.hs (fun gk av ov iv wr => ∃ k a : Nat, k + gk = b.hs ∧ a ≤ 4294967296 * (k + 1) ∧ av = .int .u64 (a : Int) ∧ iv = .int .i64 (k : Int) ∧ Hid (a = sumA id + k * sumB id) ∧ Hid (OwnL 1 wr w.heap.size 3 ov (spotsC b id k) ∧ Below w.heap.size w wr))
  case atStart => exact ⟨0, sumA id, by omega, by omega, rfl, rfl, Lib.hid (by omega), Lib.hid ⟨OwnL.nil _ _ _ _, HB2.out⟩⟩
  case round =>
    obtain ⟨k, a, hk, ha, rfl, rfl, HA, HM⟩ := hrel
    have hd := H.out.below HM.out.2
    have k1 := hd.blk.cell 1
    simp at k1
    by_cases hlt : k < b.hs
    · obtain ⟨gk1, hgk1⟩ : ∃ x, gk = x + 1 := ⟨gk - 1, by omega⟩
      have k0 := hd.blk.cell 0
      simp at k0
      obtain ⟨s, hs⟩ : ∃ s, b.spot id k = s := ⟨_, rfl⟩
      have hsl : s < b.bits := hs ▸ HOk.out.spot_lt id k
      have hs' : (a : Int) % (b.bits : Int) = (s : Int) := by
        rw [← hs, ← HSP.out k, ← HA.out]
        omega
      have HS := Lib.hid hs
      have ha1 : Below w.heap.size w (wr.alloc (.cells #[.int .i64 (s : Int)] 3)) := HM.out.2.alloc HM.out.2.size _
      have HA1 := Lib.hid ha1
      clear hd hs ha1
      go_wp2_with (at_builtin; refine wpList_append_elems _ intT1 rfl _ _ rfl w.heap.size _ _ rfl (HM.out.1.alloc _) _ _ rfl (Lv.lit1 wr [.int .i64 (s : Int)] 3) (by simp [Value.oneCell']) (by simp only [maxLen, spotsC_length, List.length_singleton]; omega) (by simp only [spotsC_length, List.length_singleton]; omega) HA1.out.size ?_)
      intro v3 w3 ho3 hg3 _
      rw [← HS.out, ← spotsC_succ] at ho3
      have HB3 := Lib.hid (HA1.out.grown hg3 HA1.out.size HM.out.1.ge)
      have HO3 := Lib.hid ho3
      clear ho3 hg3 hs' k0 k1
      go_wp2_with fail
      go_roundg gk1
      case measure => omega
      case rel => exact ⟨k + 1, a + sumB id, by omega, by omega, by go_num, by go_num, Lib.hid (by rw [Nat.succ_mul]; have := HA.out; omega), Lib.hid ⟨HO3.out, HB3.out⟩⟩
    · have hkn : k = b.hs := by omega
      subst hkn
      have k2 := hd.blk.cell 2
      simp at k2
      have hx' := HX.out
      clear hd hlt
      go_wp2_with fail
      go_ret2
      exact ⟨_, rfl, HM.out.1, HM.out.2⟩

theorem bit_more {b : Bl} (hok : b.Ok) (id k z : Nat) : bitAt (b.addK id (k + 1)) z = if z = id % b.sh * b.bits + b.spot id k then true else bitAt (b.addK id k) z := by
  rw [Bl.addK, bitAt_setBit _ _ _ (by rw [Bl.addK_length]; exact hok.place_byte id k)]
  rw [show id % b.sh * b.bits + b.spot id k = b.place id k from rfl]
  by_cases h : z = b.place id k
  · rw [if_pos h, decide_eq_true h, Bool.true_or]
  · rw [if_neg h, decide_eq_false h, Bool.false_or]

set_option maxHeartbeats 1600000 in
theorem DAdd_any {w : World} {F : Nat → Prop} {g : Nat} {b : Bl} (id : Nat) (hd : DB w F g b) (hid : id < 18446744073709551616) :
    Calls Tryz.prog 70 #[.pointer (some ⟨g, 0, none⟩), .int .u64 (id : Int)] w fun e w' => e = .returned (.tuple #[]) ∧ ∃ F', DB w' F' g (b.add id) ∧ Goes w F w' F' := by
  obtain ⟨hok, r, c, q, h, hF⟩ := hd
  have hP := Places_any hok h id hid
  have hql := fun i hi => (h.bits i hi).lt
  have hs1 := hok.s1
  have hb2 := hok.b2
  have hs2 := hok.s2
  have hh2 := hok.h2
  obtain ⟨x, hx⟩ : ∃ x, id % b.sh = x := ⟨_, rfl⟩
  have hxl : x < b.sh := hx ▸ Nat.mod_lt _ (by omega)
  have HM0 := Lib.hid (fun k z => bit_more hok id k z)
  rw [hx] at hP HM0
  have H := Lib.hid h
  have HF := Lib.hid hF
  have HQL := Lib.hid hql
  have HOk := Lib.hid hok
  clear h hF hql hok hx
  go_enter Tryz.func70, Tryz.ntmps70
  go_wp2_with fail
  refine hP.mono ?_
  rintro e w1 ⟨v, rfl, ho1, hb1⟩
  obtain ⟨A, cv, rfl, hc1, hc2⟩ := ho1.lv.form
  rw [spotsC_length] at ho1 hc1 ⊢
  have HI : Hid (DBq w1 g r c q b.sh b.bits b.hs (bitAt (b.addK id 0)) ∧ OwnL 1 w1 w.heap.size 3 (.slice A b.hs cv) (spotsC b id b.hs) ∧ Goes w F w1 F) := Lib.hid ⟨H.out.below hb1, ho1, Goes.of_below hb1⟩
  clear hP ho1 hb1
  go_wp2_with fail
  go_loopg [6] b.hs (fun gk iv wr => ∃ k : Nat, k + gk = b.hs ∧ iv = .int .i64 (k : Int) ∧ Hid (DBq wr g r c q b.sh b.bits b.hs (bitAt (b.addK id k)) ∧ OwnL 1 wr w.heap.size 3 (.slice A b.hs cv) (spotsC b id b.hs) ∧ Goes w F wr F))
  case atStart => exact ⟨0, by omega, rfl, HI⟩
  case round =>
    obtain ⟨k, hk, rfl, HM⟩ := hrel
    by_cases hlt : k < b.hs
    · obtain ⟨gk1, hgk1⟩ : ∃ x, gk = x + 1 := ⟨gk - 1, by omega⟩
      obtain ⟨s, hs⟩ : ∃ s, b.spot id k = s := ⟨_, rfl⟩
      have hsl : s < b.bits := hs ▸ HOk.out.spot_lt id k
      obtain ⟨gv, ov, rfl, hgv, hcv⟩ := HM.out.2.1.lv.cells (by omega) (i := k) (x := [.int .i64 (s : Int)]) (by rw [spotsC, List.getElem?_map, List.getElem?_range hlt, ← hs]; rfl)
      have hcv0 := hcv 0 _ rfl
      simp only [Nat.mul_one, Nat.add_zero] at hcv0
      obtain ⟨hbit, hfz⟩ := (HM.out.1.bits x hxl).cell hsl
      have hput := HM.out.1.put_ hxl hsl true (bitAt (b.addK id (k + 1))) (fun z _ => by rw [HM0.out, hs])
      have HPut := Lib.hid hput
      have hgq : w.heap.size ≤ gv := HM.out.2.1.ge gv rfl
      have hqx := HQL.out x hxl
      have hS : Hid (∀ u, Apt (fun z => z = q x) wr u → u.cell? ⟨g, 2, none⟩ = some (.slice (some ⟨r, 0, none⟩) b.sh c) ∧ u.cell? ⟨r, x, none⟩ = some (.slice (some ⟨q x, 0, none⟩) b.bits b.bits) ∧ u.cell? ⟨gv, ov + k, none⟩ = some (.int .i64 (s : Int))) := Lib.hid fun u hu => by
        have hd := HM.out.1
        have k2 := hd.blk.cell 2
        simp at k2
        exact ⟨(World.cell?_of_block (hu.block g hd.blk.lt fun e => hd.qg x hxl e.symm)).trans k2, (World.cell?_of_block (hu.block r (hd.row.lt r rfl) fun e => hd.qr x hxl e.symm)).trans (hd.rowc hxl), (World.cell?_of_block (hu.block gv hgv fun e => by omega)).trans hcv0⟩
      clear hcv hcv0 hput hs
      go_wp2_with fail
      refine wp_region_mix [(0, false), (1, false), (2, false), (3, false), (4, false), (5, false), (6, false), (7, false), (8, false), (9, false), (10, false), (11, false), (12, true)] (fun u => Apt (fun z => z = q x) wr u) (by kernel_rfl) (by kernel_rfl) (by decide +kernel) rfl (Apt.of_below (Below.refl _ _).drew) ?_
      repeat
        (refine mix_read (o := ⟨_, _, _, _, _, _⟩) (v := ?_) rfl (by rfl) (fun w' hU => ?_) ?_
         rotate_left
         have hU' := hS.out _ hU
         obtain ⟨hU1, hU2, hU3⟩ := hU'
         go_simp
         with_reducible rfl
         try simp only [Act.put, List.setIfInBounds_toArray, List.set_cons_zero, List.set_cons_succ])
      refine mix_step (o := ⟨_, _, _, _, _, _⟩) rfl (fun K hK => ?_)
      go_simp
      refine hK.out _ _ ((Apt.of_grown HPut.out.2 fun z hz => by injection hz with hz; exact hz.symm).trans (Apt.of_below (Below.refl _ _).drew)) ?_
      clear hK K
      refine mix_done ?_
      have HN : Hid (DBq (wr.setCell ⟨q x, s, none⟩ (.bool true)).drew g r c q b.sh b.bits b.hs (bitAt (b.addK id (k + 1))) ∧ OwnL 1 (wr.setCell ⟨q x, s, none⟩ (.bool true)).drew w.heap.size 3 (.slice (some ⟨gv, ov, none⟩) b.hs cv) (spotsC b id b.hs) ∧ Goes w F (wr.setCell ⟨q x, s, none⟩ (.bool true)).drew F) :=
        Lib.hid ⟨HPut.out.1.below (Below.refl _ _).drew, (HM.out.2.1.kept HPut.out.2 (.inr fun e => by
          have e' : gv = q x := by simpa [Value.ownBlock] using e
          omega)).below (Below.refl _ _).drew, (HM.out.2.2.own HPut.out.2 ((HF.out _).2 (.inr (.inr ⟨x, hxl, rfl⟩)))).later (Below.refl _ _).drew⟩
      generalize (wr.setCell ⟨q x, s, none⟩ (.bool true)).drew = w3 at *
      clear hbit hfz HPut hS hgv hgq hqx
      go_wp2_with fail
      go_roundg gk1
      case measure => omega
      case rel => exact ⟨k + 1, by omega, by go_num, HN⟩
    · have hkn : k = b.hs := by omega
      subst hkn
      clear hlt
      go_wp2_with fail
      refine bodyPost_end (results_none rfl _ _ _) rfl ?_
      exact ⟨rfl, F, ⟨HOk.out.add id, r, c, q, HM.out.1, HF.out⟩, HM.out.2.2⟩

structure DNw (w : World) (g n hs : Nat) (v : Value) (q : Nat → Nat) (k : Nat) (W : World) : Prop where
  blk : Blk W g 174 #[.int .i64 (n : Int), .int .i64 (hs : Int), v]
  row : OwnL 1 W w.heap.size 175 v (rowsC k n q)
  bits : ∀ i, i < k → DRow W (q i) n fun _ => false
  gg : w.heap.size ≤ g
  vg : ∀ z, v.ownBlock = some z → z ≠ g
  qg : ∀ i, i < k → q i ≠ g
  qv : ∀ i, i < k → v.ownBlock ≠ some (q i)
  qq : ∀ i j, i < k → j < k → q i = q j → i = j
  qge : ∀ i, i < k → w.heap.size ≤ q i
  below : Below w.heap.size w W

set_option maxHeartbeats 1600000 in
theorem DNew_any {s n hs : Nat} (w : World) (hs1 : 1 ≤ s) (hs2 : s ≤ 16) (hn : n ≤ 4096) : Calls Tryz.prog 68 #[.int .i64 (s : Int), .int .i64 (n : Int), .int .i64 (hs : Int)] w fun e w' => ∃ g r c q, e = .returned (.pointer (some ⟨g, 0, none⟩)) ∧ DBq w' g r c q s n hs (fun _ => false) ∧ Below w.heap.size w w' ∧ w.heap.size ≤ g ∧ w.heap.size ≤ r ∧ ∀ i, i < s → w.heap.size ≤ q i := by
  have HI : Hid (DNw w w.heap.size n hs (.slice none 0 0) (fun _ => 0) 0 (w.alloc (.cells #[.int .i64 (n : Int), .int .i64 (hs : Int), .slice none 0 0] 174))) := Lib.hid
    ⟨Blk.new w _ _, OwnL.nil _ _ _ _, fun i hi => absurd hi (by omega), Nat.le_refl _, fun z hz => by simp [Value.ownBlock] at hz, fun i hi => absurd hi (by omega), fun i hi => absurd hi (by omega), fun i _ hi => absurd hi (by omega), fun i hi => absurd hi (by omega), (Below.refl _ w).alloc (Nat.le_refl _) _⟩
  have hmk := run_make_bools n (by omega)
  go_enter Tryz.func68, Tryz.ntmps68
  go_wp2_with fail
  generalize hg : w.heap.size = g at *
  generalize w.alloc (.cells #[.int .i64 (n : Int), .int .i64 (hs : Int), .slice none 0 0] 174) = w1 at *
  go_loopg [8] s (fun gk iv wr => ∃ (k : Nat) (v : Value) (q : Nat → Nat), k + gk = s ∧ iv = .int .i64 (k : Int) ∧ Hid (DNw w g n hs v q k wr))
  case atStart => exact ⟨0, _, _, by omega, rfl, HI⟩
  case round =>
    obtain ⟨k, v, q, hk, rfl, HM⟩ := hrel
    by_cases hlt : k < s
    · obtain ⟨gk1, hgk1⟩ : ∃ x, gk = x + 1 := ⟨gk - 1, by omega⟩
      have hgl := HM.out.blk.lt
      have k2 := HM.out.blk.cell 2
      simp at k2
      have hS : Hid (∀ u, Apt (fun z => v.ownBlock = some z) wr u → u.cell? ⟨g, 2, none⟩ = some v) := Lib.hid fun u hu => (World.cell?_of_block (hu.block g hgl fun e => HM.out.vg g e rfl)).trans k2
      clear k2
      go_wp2_with fail
      refine wp_region_mix3 11 [(0, 0), (1, 0), (2, 0), (3, 0), (4, 0), (5, 0), (6, 1), (7, 1), (8, 1), (9, 0), (10, 0), (11, 2)] (fun u => Apt (fun z => v.ownBlock = some z) wr u) (by kernel_rfl) (by kernel_rfl) (by decide +kernel) rfl (Apt.of_below (Below.refl _ _).drew) ?_
      repeat
        (refine mix3_read (o := ⟨_, _, _, _, _, _⟩) (v := ?_) rfl (by rfl) (fun w' hU => ?_) ?_
         rotate_left
         have hU' := hS.out _ hU
         go_simp
         with_reducible rfl
         try simp only [Act.put, List.setIfInBounds_toArray, List.set_cons_zero, List.set_cons_succ])
      refine mix3_step (o := ⟨_, _, _, _, _, _⟩) rfl (fun K hK => ?_)
      go_simp
      have hw2 : ∃ w2, w2 = (wr.alloc (.cells (madeCells #[.bool false] n) 4)).drew ∧ Below wr.heap.size wr w2 ∧ w2.heap.size = wr.heap.size + 1 ∧ DRow w2 wr.heap.size n (fun _ => false) := ⟨_, rfl, ((Below.refl _ wr).alloc (Nat.le_refl _) _).drew, by simp, by
        have := ownL_zeros wr 0 n (.bool false) 4 (by omega) (Nat.zero_le _)
        unfold DRow
        have e : ((List.range n).map fun p => bC ((fun _ => false) p)) = List.replicate n [.bool false] := by
          refine List.ext_getElem? fun i => ?_
          rw [List.getElem?_map, List.getElem?_replicate]
          rcases Nat.lt_or_ge i n with h | h
          · rw [List.getElem?_range h, if_pos h]
            rfl
          · rw [List.getElem?_eq_none (by simpa using h), if_neg (by omega)]
            rfl
        rw [e]
        exact this⟩
      obtain ⟨w2, hw2, hb2, hz2, hr2⟩ := hw2
      rw [← hw2]
      clear hw2
      refine hK.out _ _ (Apt.of_below hb2) ?_
      clear hK K
      try simp only [Act.put, List.setIfInBounds_toArray, List.set_cons_zero, List.set_cons_succ]
      refine mix3_step (o := ⟨_, _, _, _, _, _⟩) rfl (fun K hK => ?_)
      go_simp
      have hb3 : Below w2.heap.size w2 (w2.alloc (.cells #[.slice (some ⟨wr.heap.size, 0, none⟩) n n] 175)) := (Below.refl _ w2).alloc (Nat.le_refl _) _
      have hlit := Lv.lit1 w2 [.slice (some ⟨wr.heap.size, 0, none⟩) n n] 175
      have hz3 : (w2.alloc (.cells #[.slice (some ⟨wr.heap.size, 0, none⟩) n n] 175)).heap.size = w2.heap.size + 1 := by simp
      have hr3 := hr2.kept (grown_of_below hb3 none) (by simp)
      refine hK.out _ _ (Apt.of_below (hb2.trans (hb3.mono hb2.size))) ?_
      clear hK K
      try simp only [Act.put, List.setIfInBounds_toArray, List.set_cons_zero, List.set_cons_succ]
      replace hlit : Lv 1 (w2.alloc (.cells #[.slice (some ⟨wr.heap.size, 0, none⟩) n n] 175)) (.slice (some ⟨w2.heap.size, 0, none⟩) 1 1) [[.slice (some ⟨wr.heap.size, 0, none⟩) n n]] := hlit
      rw [hz2] at hlit
      have hbA : Below wr.heap.size wr (w2.alloc (.cells #[.slice (some ⟨wr.heap.size, 0, none⟩) n n] 175)) := hb2.trans (hb3.mono hb2.size)
      generalize w2.alloc (.cells #[.slice (some ⟨wr.heap.size, 0, none⟩) n n] 175) = w3 at *
      refine mix3_step (o := ⟨_, _, _, _, _, _⟩) rfl (fun K hK => ?_)
      refine step_append_elems boolsT1 rfl _ _ rfl rfl (HM.out.row.below hbA) rfl hlit (by intro y hy; simp at hy; subst hy; simp [Value.oneCell']) (by simp only [maxLen, rowsC_length, List.length_singleton]; omega) (by simp only [rowsC_length, List.length_singleton]; omega) (Nat.le_trans HM.out.below.size hbA.size) ?_
      intro v6 w6 ho6 hg6 hv6
      replace hg6 : w3.grownBy w6 v.ownBlock := hg6
      replace hv6 : v6.ownBlock = v.ownBlock ∨ v6.ownBlock = some w3.heap.size := hv6
      have hap6 : Apt (fun z => v.ownBlock = some z) wr w6 := (Apt.of_below hbA).trans (Apt.of_grown hg6 fun z hz => hz)
      refine hK.out _ _ hap6 ?_
      clear hK K
      try simp only [Act.put, List.setIfInBounds_toArray, List.set_cons_zero, List.set_cons_succ]
      repeat
        (refine mix3_read (o := ⟨_, _, _, _, _, _⟩) (v := ?_) rfl (by rfl) (fun w' hU => ?_) ?_
         rotate_left
         have hU' := hS.out _ hU
         go_simp
         with_reducible rfl
         try simp only [Act.put, List.setIfInBounds_toArray, List.set_cons_zero, List.set_cons_succ])
      have hB6 : Blk w6 g 174 #[.int .i64 (n : Int), .int .i64 (hs : Int), v] := (hap6.block g hgl fun e => HM.out.vg g e rfl).trans HM.out.blk
      have hvlt : ∀ z, v.ownBlock = some z → z < wr.heap.size := fun z hz => HM.out.row.lt z hz
      have hv6' : ∀ z, v6.ownBlock = some z → v.ownBlock = some z ∨ z = wr.heap.size + 2 := fun z hz => by
        rcases hv6 with h | h
        · exact .inl (h.symm.trans hz)
        · rw [hz] at h
          injection h with h
          exact .inr (by omega)
      have k62 := hB6.cell 2
      have f62 := hB6.frozen 2
      simp at k62
      have hB7 : Blk (w6.setCell ⟨g, 2, none⟩ v6) g 174 #[.int .i64 (n : Int), .int .i64 (hs : Int), v6] := by
        have := Blk.set_ hB6 2 v6
        simpa using this
      have hgs := grown_set w6 g 2 v6
      have hqlt : ∀ i, i < k → q i < wr.heap.size := fun i hi => (HM.out.bits i hi).lt
      have hN : DNw w g n hs v6 (fun i => if i = k then wr.heap.size else q i) (k + 1) (w6.setCell ⟨g, 2, none⟩ v6) := by
        refine ⟨hB7, ?_, fun i hi => ?_, HM.out.gg, fun z hz e => ?_, fun i hi => ?_, fun i hi e => ?_, fun i j hi hj e => ?_, fun i hi => ?_, ?_⟩
        · have e : rowsC (k + 1) n (fun i => if i = k then wr.heap.size else q i) = rowsC k n q ++ [[.slice (some ⟨wr.heap.size, 0, none⟩) n n]] := by
            unfold rowsC
            rw [List.range_succ, List.map_append]
            congr 1
            · refine List.map_congr_left fun i hi => ?_
              have := List.mem_range.1 hi
              show [Value.slice (some ⟨if i = k then wr.heap.size else q i, 0, none⟩) n n] = _
              rw [if_neg (by omega)]
            · simp
          rw [e]
          refine ho6.kept hgs ?_
          cases hv : v6.ownBlock with
          | none => exact .inl rfl
          | some z =>
            refine .inr fun e => ?_
            injection e with e
            subst e
            rcases hv6' z hv with h | h
            · exact HM.out.vg z h rfl
            · omega
        · by_cases hik : i = k
          · subst hik
            simp only [if_true]
            refine ((hr3.kept hg6 fun e => ?_).kept hgs fun e => ?_)
            · have := hvlt _ e
              omega
            · injection e with e
              omega
          · have hi' : i < k := by omega
            simp only [if_neg hik]
            refine ((HM.out.bits i hi').apt hap6 fun e => HM.out.qv i hi' e).kept hgs fun e => ?_
            injection e with e
            exact HM.out.qg i hi' e.symm
        · subst e
          rcases hv6' z hz with h | h
          · exact HM.out.vg z h rfl
          · omega
        · by_cases hik : i = k
          · simp only [if_pos hik]
            omega
          · simp only [if_neg hik]
            exact HM.out.qg i (by omega)
        · by_cases hik : i = k
          · simp only [if_pos hik] at e
            rcases hv6' _ e with h | h
            · have := hvlt _ h
              omega
            · omega
          · simp only [if_neg hik] at e
            rcases hv6' _ e with h | h
            · exact HM.out.qv i (by omega) h
            · have := hqlt i (by omega)
              omega
        · by_cases hik : i = k
          · by_cases hjk : j = k
            · omega
            · simp only [if_pos hik, if_neg hjk] at e
              have := hqlt j (by omega)
              omega
          · by_cases hjk : j = k
            · simp only [if_neg hik, if_pos hjk] at e
              have := hqlt i (by omega)
              omega
            · simp only [if_neg hik, if_neg hjk] at e
              exact HM.out.qq i j (by omega) (by omega) e
        · by_cases hik : i = k
          · simp only [if_pos hik]
            exact HM.out.below.size
          · simp only [if_neg hik]
            exact HM.out.qge i (by omega)
        · exact (below_apt HM.out.below hap6 (fun z hz => HM.out.row.ge z hz) HM.out.below.size).grown hgs (Nat.le_trans HM.out.below.size hap6.size) (by intro z hz; injection hz with hz; have := HM.out.gg; omega)
      have HN := Lib.hid hN
      clear hN hB6 hB7 hgs hqlt hap6 hg6 hv6 hv6' hvlt ho6 hbA hlit hr3 hb3 hz3 hr2 hz2 hb2
      obtain ⟨A6, c6, hv6f, _, _⟩ := HN.out.row.lv.form
      rw [rowsC_length] at hv6f
      subst hv6f
      refine mix3_store (o := ⟨_, _, _, _, _, _⟩) rfl (fun K hK => ?_)
      go_simp
      refine hK.out _ _ ?_
      clear hK K
      refine mix3_done ?_
      generalize w6.setCell ⟨g, 2, none⟩ (.slice A6 (k + 1) c6) = w7 at *
      clear k62 f62 hS hgl
      go_wp2_with fail
      go_roundg gk1
      case measure => omega
      case rel => exact ⟨k + 1, _, _, by omega, by go_num, HN⟩
    · have hkn : k = s := by omega
      subst hkn
      obtain ⟨hv, _⟩ | ⟨r, c, rfl, hc1, hc2, hrg, hrl, _⟩ := HM.out.row.at_
      · have := congrArg (fun v => match v with | Value.slice _ n _ => n | _ => 0) hv
        have h2 := HM.out.row.lv.form
        obtain ⟨A, c, h2, _⟩ := h2
        rw [hv] at h2
        injection h2 with _ h2
        rw [rowsC_length] at h2
        omega
      have HM' := HM.out
      rw [rowsC_length] at HM'
      have HD : Hid (DBq wr g r c q k n hs (fun _ => false)) := Lib.hid ⟨HM'.blk, HM'.row.lower (Nat.zero_le _), HM'.bits, fun e => HM'.vg r rfl e.symm, HM'.qg, fun i hi e => HM'.qv i hi (by simp [Value.ownBlock, e]), HM'.qq⟩
      clear hlt
      go_wp2_with fail
      go_ret
      exact ⟨g, r, c, q, rfl, HD.out, hg ▸ HM.out.below, HM.out.gg, hrg, HM.out.qge⟩

theorem half_bit (x j : Nat) : x / 2 ^ (j + 1) * 2 + (if x / 2 ^ j % 2 = 1 then 1 else 0) = x / 2 ^ j := by
  have h : x / 2 ^ (j + 1) = x / 2 ^ j / 2 := by rw [Nat.pow_succ, Nat.div_div_eq_div_mul]
  rw [h]
  split <;> omega
theorem bit_of (l : List UInt8) (n m i kk j : Nat) (hn : n = 8 * m) (hj : j < 8) : bitAt l (i * n + (8 * kk + j)) = decide ((l.getD (i * m + kk) 0).toNat / 2 ^ j % 2 = 1) := by
  have h1 : (i * n + (8 * kk + j)) / 8 = i * m + kk := by
    rw [hn, show i * (8 * m) = 8 * (i * m) by rw [Nat.mul_left_comm]]
    omega
  have h2 : (i * n + (8 * kk + j)) % 8 = j := by
    rw [hn, show i * (8 * m) = 8 * (i * m) by rw [Nat.mul_left_comm]]
    omega
  unfold bitAt
  rw [h1, h2]

theorem u8_bet (x : Nat) : IntKind.u8.wrap (x : Int) = ((UInt8.ofNat (x / 256 ^ 0)).toNat : Int) := by
  rw [IntKind.wrap_u8, UInt8.toNat_ofNat']
  simp
theorem own_lit2 (w : World) (x y : Nat) : Own (w.alloc (.cells #[.int .u8 (IntKind.u8.wrap (x : Int)), .int .u8 (IntKind.u8.wrap (y : Int))] 5)) w.heap.size 5 (.slice (some ⟨w.heap.size, 0, none⟩) 2 2) (bet x 1 ++ bet y 1) := by
  have h := World.ownsRow_lit (base := w.heap.size) (e := 5) (size := 1) w #[.int .u8 (IntKind.u8.wrap (x : Int)), .int .u8 (IntKind.u8.wrap (y : Int))] 2 (Nat.le_refl _) (by simp [maxLen]) rfl
  have e : BV (bet x 1 ++ bet y 1) = [.int .u8 (IntKind.u8.wrap (x : Int)), .int .u8 (IntKind.u8.wrap (y : Int))] := by rw [u8_bet, u8_bet]; rfl
  unfold Own
  rw [e, show (bet x 1 ++ bet y 1).length = 2 by simp [bet_length]]
  exact h

set_option maxHeartbeats 3200000 in
theorem DBytes_any {w : World} {F : Nat → Prop} {g : Nat} {b : Bl} (hd : DB w F g b) :
    Calls Tryz.prog 74 #[.pointer (some ⟨g, 0, none⟩)] w fun e w' => ∃ v, e = .returned v ∧ Own w' w.heap.size 5 v b.bytes ∧ Below w.heap.size w w' := by
  obtain ⟨hok, r, c, q, h, _⟩ := hd
  have hs1 := hok.s1
  have hs2 := hok.s2
  have hb1 := hok.b1
  have hb2 := hok.b2
  have hh2 := hok.h2
  have hlen := hok.len_le
  obtain ⟨m, hm⟩ : ∃ m, b.bits = 8 * m := ⟨b.bits / 8, by have := hok.b8; omega⟩
  have hsl : b.set.length = b.sh * m := by
    have := hok.eight
    rw [hm, Nat.mul_left_comm] at this
    omega
  have H := Lib.hid h
  have hS : Hid (∀ u, Below w.heap.size w u → u.cell? ⟨g, 0, none⟩ = some (.int .i64 (b.bits : Int)) ∧ u.cell? ⟨g, 1, none⟩ = some (.int .i64 (b.hs : Int)) ∧ u.cell? ⟨g, 2, none⟩ = some (.slice (some ⟨r, 0, none⟩) b.sh c)) := Lib.hid fun u hu => by
    have hd := H.out.below hu
    have k0 := hd.blk.cell 0
    have k1 := hd.blk.cell 1
    have k2 := hd.blk.cell 2
    simp at k0 k1 k2
    exact ⟨k0, k1, k2⟩
  have HM8 := Lib.hid hm
  have HSL := Lib.hid hsl
  clear h hok hsl hm
  go_enter Tryz.func74, Tryz.ntmps74
  go_wp2_with fail
  refine wp_region_mix [(0, false), (1, false), (2, false), (3, false), (4, false), (5, false), (6, false), (7, false), (8, false), (9, false), (10, false), (11, true), (12, false)] (fun u => Below w.heap.size w u) (by kernel_rfl) (by kernel_rfl) (by decide +kernel) rfl (Below.refl _ _).drew ?_
  repeat
    (refine mix_read (o := ⟨_, _, _, _, _, _⟩) (v := ?_) rfl (by rfl) (fun w' hU => ?_) ?_
     rotate_left
     obtain ⟨hU1, hU2, hU3⟩ := hS.out _ hU
     go_simp
     with_reducible rfl
     try simp only [Act.put, List.setIfInBounds_toArray, List.set_cons_zero, List.set_cons_succ])
  refine mix_step (o := ⟨_, _, _, _, _, _⟩) rfl (fun K hK => ?_)
  go_simp
  have hb2' : Below w.heap.size w (w.alloc (.cells #[.int .u8 (IntKind.u8.wrap (b.sh : Int)), .int .u8 (IntKind.u8.wrap (b.hs : Int))] 5)).drew := ((Below.refl _ w).alloc (Nat.le_refl _) _).drew
  have ho2 : Own (w.alloc (.cells #[.int .u8 (IntKind.u8.wrap (b.sh : Int)), .int .u8 (IntKind.u8.wrap (b.hs : Int))] 5)).drew w.heap.size 5 (.slice (some ⟨w.heap.size, 0, none⟩) 2 2) (bet b.sh 1 ++ bet b.hs 1) := own_lit2 w b.sh b.hs
  refine hK.out _ _ hb2' ?_
  clear hK K
  try simp only [Act.put, List.setIfInBounds_toArray, List.set_cons_zero, List.set_cons_succ]
  repeat
    (refine mix_read (o := ⟨_, _, _, _, _, _⟩) (v := ?_) rfl (by rfl) (fun w' hU => ?_) ?_
     rotate_left
     go_simp
     with_reducible rfl
     try simp only [Act.put, List.setIfInBounds_toArray, List.set_cons_zero, List.set_cons_succ])
  refine mix_done ?_
  generalize (w.alloc (.cells #[.int .u8 (IntKind.u8.wrap (b.sh : Int)), .int .u8 (IntKind.u8.wrap (b.hs : Int))] 5)).drew = w2 at *
  have HB2 := Lib.hid hb2'
  have HO2 := Lib.hid ho2
  obtain ⟨k0, _, _⟩ := hS.out _ hb2'
  have hBy := Bytes_any 2 (b.bits : Int) w2 (by omega) (by omega) (by omega) (by omega)
  rw [Int.toNat_natCast, show Int.toNat 2 = 2 from rfl] at hBy
  clear hb2' ho2
  go_wp2_with fail
  refine hBy.mono ?_
  rintro e w3 ⟨v3, rfl, ho3, hb3⟩
  have HB3 := Lib.hid (HB2.out.trans (hb3.mono HB2.out.size))
  have HO3 := Lib.hid ho3
  have HO23 := Lib.hid (HO2.out.below hb3)
  clear hBy ho3 hb3 k0 HB2 HO2
  go_wp2_with (at_builtin; refine wpList_append_v _ byteT rfl _ _ rfl w.heap.size _ _ rfl HO23.out _ _ rfl HO3.out.bs (by simp [bet_length]) HB3.out.size ?_)
  intro v4 w4 ho4 hg4 _
  have HM4 : Hid (Own w4 w.heap.size 5 v4 b.head ∧ Below w.heap.size w w4) := Lib.hid ⟨ho4, HB3.out.grown hg4 HB3.out.size HO23.out.ge⟩
  clear ho4 hg4 HB3 HO23 HO3
  go_wp2_with fail
  have hmi : (8 : Int) * (m : Int) = (b.bits : Int) := by have := HM8.out; omega
  go_loopg [3, 4] b.sh (fun gk ov iv wr => ∃ i : Nat, i + gk = b.sh ∧ iv = .int .i64 (i : Int) ∧ Hid (Own wr w.heap.size 5 ov (b.head ++ b.set.take (i * m)) ∧ Below w.heap.size w wr))
  case atStart => exact ⟨0, by omega, rfl, Lib.hid (by simpa using HM4.out)⟩
  case round =>
    obtain ⟨i, hi, rfl, HM⟩ := hrel
    obtain ⟨_, _, k2⟩ := hS.out _ HM.out.2
    by_cases hlt : i < b.sh
    · obtain ⟨gk1, hgk1⟩ : ∃ x, gk = x + 1 := ⟨gk - 1, by omega⟩
      have HGK := Lib.hid hgk1
      have HI := Lib.hid hi
      have HI0 := Lib.hid hlt
      clear hgk1 hi
      go_wp2_with fail
      clear k2
      go_loopg [3, 5] m (fun gk ov kv wq => ∃ k : Nat, k + gk = m ∧ kv = .int .i64 (8 * (k : Int)) ∧ Hid (Own wq w.heap.size 5 ov (b.head ++ b.set.take (i * m + k)) ∧ Below w.heap.size w wq))
      case atStart => exact ⟨0, by omega, by first | rfl | go_num, HM⟩
      case round =>
        obtain ⟨k, hk, rfl, HQ⟩ := hrel
        obtain ⟨k0, _, _⟩ := hS.out _ HQ.out.2
        by_cases hltk : k < m
        · obtain ⟨gk2, hgk2⟩ : ∃ x, gk = x + 1 := ⟨gk - 1, by omega⟩
          have HGK2 := Lib.hid hgk2
          have HK2 := Lib.hid hk
          obtain ⟨z, hz⟩ : ∃ z, b.set.getD (i * m + k) 0 = z := ⟨_, rfl⟩
          obtain ⟨x, hx⟩ : ∃ x, z.toNat = x := ⟨_, rfl⟩
          have hxlt : x < 256 := hx ▸ z.toNat_lt
          have HB8 : Hid (∀ j, j < 8 → bitAt b.set (i * b.bits + (8 * k + j)) = decide (x / 2 ^ j % 2 = 1)) := Lib.hid fun j hj => by rw [bit_of _ _ m i k j HM8.out hj, hz, hx]
          have HT : Hid (b.head ++ b.set.take (i * m + k) ++ [z] = b.head ++ b.set.take (i * m + (k + 1))) := Lib.hid (by
            have hl : i * m + k < b.set.length := by
              have := shard_lt HI0.out hltk
              have := HSL.out
              omega
            rw [show i * m + (k + 1) = i * m + k + 1 by omega, List.take_succ_eq_append_getElem hl, ← hz, List.getD_eq_getElem?_getD, List.getElem?_eq_getElem hl, Option.getD_some, List.append_assoc])
          have HX := Lib.hid hx
          clear hk hgk2 hz hx
          go_wp2_with fail
          go_loopg [6, 7] 8 (fun gj cv jv wz => ∃ j y : Nat, j = gj ∧ j ≤ 8 ∧ y < 256 ∧ jv = .int .i64 ((j : Int) - 1) ∧ cv = .int .u8 (y : Int) ∧ Hid (y = x / 2 ^ j) ∧ Hid (Own wz w.heap.size 5 u3 (b.head ++ b.set.take (i * m + k)) ∧ Below w.heap.size w wz))
          case atStart => exact ⟨8, 0, rfl, Nat.le_refl _, by omega, by first | rfl | go_num, rfl, Lib.hid (by omega), HQ⟩
          case round =>
            obtain ⟨j, y, hj, hj8, hy, rfl, rfl, HY, HW⟩ := hrel
            clear k0
            rcases j with _ | j
            · clear hj hj8
              have hyx : y = x := by
                have := HY.out
                simpa using this
              subst hyx
              have ha1 : Below w.heap.size w (wr.alloc (.cells #[.int .u8 (y : Int)] 5)) := HW.out.2.alloc HW.out.2.size _
              have HA1 := Lib.hid ha1
              have HOa := Lib.hid (HW.out.1.alloc (.cells #[.int .u8 (y : Int)] 5))
              have HLit := Lib.hid (Bs.lit1 wr z (.int .u8 (y : Int)) 5 (by rw [HX.out]))
              have hml : (b.head ++ b.set.take (i * m + k)).length ≤ 10000 := by
                rw [List.length_append, Bl.head_length, List.length_take]
                omega
              clear ha1
              go_wp2_with (at_builtin; refine wpList_append_v _ byteT rfl _ _ rfl w.heap.size _ _ rfl HOa.out _ [z] rfl HLit.out (by simp only [List.length_singleton]; omega) HA1.out.size ?_)
              intro v5 w5 ho5 hg5 _
              rw [← List.append_assoc, HT.out] at ho5
              have HN : Hid (Own w5 w.heap.size 5 v5 (b.head ++ b.set.take (i * m + (k + 1))) ∧ Below w.heap.size w w5) := Lib.hid ⟨ho5, HA1.out.grown hg5 HA1.out.size HOa.out.ge⟩
              clear ho5 hg5
              go_wp2_with fail
              go_roundg gk2
              case measure => have := HGK2.out; omega
              case rel => exact ⟨k + 1, by have := HGK2.out; have := HK2.out; omega, by go_num, HN⟩
            · obtain ⟨gk3, hgk3⟩ : ∃ x, gk = x + 1 := ⟨gk - 1, by omega⟩
              have hy2 : y ≤ 127 := by
                have h1 := HY.out
                have h2 : x / 2 ^ (j + 1) = x / 2 ^ j / 2 := by rw [Nat.pow_succ, Nat.div_div_eq_div_mul]
                have h3 := Nat.div_le_self x (2 ^ j)
                omega
              have hje : ((j + 1 : Nat) : Int) - 1 = (j : Int) := by omega
              rw [hje]
              have hd := H.out.below HW.out.2
              obtain ⟨_, _, k2⟩ := hS.out _ HW.out.2
              have krow := hd.rowc HI0.out
              have hpos : 8 * k + j < b.bits := by omega
              obtain ⟨kbit, _⟩ := (hd.bits i HI0.out).cell hpos
              rw [HB8.out j (by omega)] at kbit
              have HH := Lib.hid (half_bit x j)
              by_cases hbit : x / 2 ^ j % 2 = 1
              · rw [decide_eq_true hbit] at kbit
                rw [if_pos hbit] at HH
                have HY' : Hid (y * 2 + 1 = x / 2 ^ j) := Lib.hid (by rw [HY.out]; exact HH.out)
                clear hd hbit hje
                go_wp2_with fail
                go_roundg gk3
                case measure => omega
                case rel => exact ⟨j, y * 2 + 1, by omega, by omega, by omega, rfl, by go_num, HY', HW⟩
              · rw [decide_eq_false hbit] at kbit
                rw [if_neg hbit] at HH
                have HY' : Hid (y * 2 = x / 2 ^ j) := Lib.hid (by rw [HY.out]; exact HH.out)
                clear hd hbit hje
                go_wp2_with fail
                go_roundg gk3
                case measure => omega
                case rel => exact ⟨j, y * 2, by omega, by omega, by omega, rfl, by go_num, HY', HW⟩
        · have hkm : k = m := by omega
          subst hkm
          clear hltk hk
          go_wp2_with fail
          go_roundg gk1
          case measure => have := HGK.out; omega
          case rel => exact ⟨i + 1, by have := HGK.out; have := HI.out; omega, by go_num, Lib.hid (by rw [Nat.succ_mul]; exact HQ.out)⟩
    · have hin : i = b.sh := by omega
      subst hin
      have hall : b.set.take (b.sh * m) = b.set := List.take_of_length_le (by have := HSL.out; omega)
      have ho := HM.out.1
      rw [hall] at ho
      have hSe := Seal_any (b.head ++ b.set) _ _ (by rw [List.length_append, Bl.head_length]; omega) ho.bs
      clear hlt ho hall
      go_wp2_with fail
      refine hSe.mono ?_
      rintro e w5 ⟨v5, rfl, ho5, hb5⟩
      have HB5 := Lib.hid (HM.out.2.trans (hb5.mono HM.out.2.size))
      have HO5 := Lib.hid (ho5.lower (base' := w.heap.size) HM.out.2.size)
      clear hSe ho5 hb5
      go_wp2_with fail
      go_ret
      exact ⟨_, rfl, HO5.out, HB5.out⟩

theorem DNew_ok {s bi h : Nat} (w : World) (hr : rightI s bi h = true) : Calls Tryz.prog 68 #[.int .i64 (s : Int), .int .i64 (bi : Int), .int .i64 (h : Int)] w fun e w' => ∃ (g : Nat) (F : Nat → Prop), e = .returned (.pointer (some ⟨g, 0, none⟩)) ∧ DB w' F g (Bl.new s bi h) ∧ Below w.heap.size w w' ∧ ∀ q, F q → w.heap.size ≤ q := by
  obtain ⟨h1, h2, h3, h4, h5, h6, h7⟩ := rightI_iff.1 hr
  refine (DNew_any (s := s) (n := bi) (hs := h) w (by omega) (by omega) (by omega)).mono ?_
  rintro e w' ⟨g, r, c, q, he, hd, hb, hg, hrr, hq⟩
  refine ⟨g, fun z => z = g ∨ z = r ∨ ∃ i, i < s ∧ z = q i, he, ⟨Bl.new_ok hr, r, c, q, hd.same fun z _ => bitAt_zeros _ _, fun z => Iff.rfl⟩, hb, fun z hz => ?_⟩
  rcases hz with rfl | rfl | ⟨i, hi, rfl⟩
  · exact hg
  · exact hrr
  · exact hq i hi

end Go.Proofs.YtfccfnbmmgfgcaaGreatDoor

/-
  tankardlaw09.HeapSorts, walked over whatever keeps what a heap is to keep ('HeapK'). Conditions: what the theorem says.
-/
import Derived.Test.YtpcaecnkdcobmaaHpB
import Derived.Deep.DeepCutAuto
namespace Go.Proofs.Ytpcaecnkdcobmaa
open Go.RowKit
set_option maxRecDepth 100000

/-- the box of the argument, in block gl, and the argument -/
def XSo (gl : Nat) (v : Value) (L : List Int) (u : World) : Prop := u.cell? ⟨gl, 0, none⟩ = some v ∧ Lv 1 u v (L.map iC)
theorem XSo.form {gl : Nat} {v : Value} {L : List Int} {u : World} (h : XSo gl v L u) : ∃ A c, v = .slice A L.length c ∧ L.length ≤ c ∧ c ≤ 9223372036854775807 := by
  obtain ⟨A, c, hv, h1, h2⟩ := h.2.form
  rw [List.length_map] at hv h1
  exact ⟨A, c, hv, h1, h2⟩
theorem XSo.at_ {gl n c : Nat} {A : Option Addr} {L : List Int} {u : World} (h : XSo gl (.slice A n c) L u) {i : Nat} {x : Int} (hi : L[i]? = some x) : ∃ q p, A = some ⟨q, p, none⟩ ∧ u.cell? ⟨q, p + i, none⟩ = some (.int .i64 x) := by
  obtain ⟨q, p, hA, _, hc⟩ := h.2.cells (by omega) (i := i) (x := iC x) (by rw [List.getElem?_map, hi]; rfl)
  exact ⟨q, p, hA, by simpa using hc 0 _ rfl⟩
theorem XSo.below {gl : Nat} {v : Value} {L : List Int} {u u' : World} (h : XSo gl v L u) (hgl : gl < u.heap.size) (hb : Below u.heap.size u u') : XSo gl v L u' := ⟨(hb.cell (p := ⟨gl, 0, none⟩) hgl).trans h.1, h.2.below hb⟩
theorem XSo.keep {bad : Nat → Prop} {gl : Nat} {v : Value} {L : List Int} {u : World} (h : XSo gl v L u) (hgl : gl < u.heap.size) (h1 : ¬ bad gl) (h2 : L ≠ [] → ∀ q, v.ownBlock = some q → ¬ bad q) : Keep bad (XSo gl v L) u := fun u' ha =>
  ⟨(World.cell?_of_block (ha.block gl hgl h1)).trans h.1, h.2.apt ha fun hne => h2 fun e => hne (by rw [e]; rfl)⟩
/-- what stands for an index -/
def lkp (L : List Int) (a : Int) : Int := L.getD a.toNat 0
theorem lkp_at (L : List Int) (a : Nat) (h : a < L.length) : L[a]? = some (lkp L (a : Int)) := by
  simp [lkp, h]

set_option maxHeartbeats 800000 in
theorem sortsLess_any (gl : Nat) (v : Value) (L : List Int) (a b : Nat) (w : World) (h : XSo gl v L w) (ha : a < L.length) (hb : b < L.length) :
    Calls Try.prog 15 #[.int .i64 (a : Int), .int .i64 (b : Int), .pointer (some ⟨gl, 0, none⟩)] w fun e w' => e = .returned (.bool (decide (lkp L (a : Int) < lkp L (b : Int)))) ∧ Below w.heap.size w w' := by
  obtain ⟨A, c, rfl, hc1, hc2⟩ := h.form
  obtain ⟨q, p, rfl, c0⟩ := h.at_ (lkp_at L a ha)
  obtain ⟨q', p', hA, c0'⟩ := h.at_ (lkp_at L b hb)
  injection hA with hA
  injection hA with hA1 hA2
  subst hA1 hA2
  have k0 := h.1
  have a0 : (0 : Int) ≤ (a : Int) := by omega
  have a1 : (a : Int) < (L.length : Int) := by omega
  have b0 : (0 : Int) ≤ (b : Int) := by omega
  have b1 : (b : Int) < (L.length : Int) := by omega
  generalize lkp L (a : Int) = x at *
  generalize lkp L (b : Int) = y at *
  clear h
  go_enter Try.func15, Try.ntmps15
  go_wp2_with fail
  go_quiet (fail)
  go_wp2_with fail
  go_ret
  exact ⟨rfl, below_drewN (Below.refl _ _) _⟩
/-- the function that HeapSorts makes, in every world that keeps what it reads -/
theorem sortsLess {gl : Nat} {v : Value} {L : List Int} {u : World} (h : XSo gl v L u) : LessAt vI (.func (.func 15) #[] #[.pointer (some ⟨gl, 0, none⟩)]) (fun a b => decide (lkp L a < lkp L b)) (fun a => 0 ≤ a ∧ a < (L.length : Int)) u := by
  refine ⟨_, _, rfl, fun _ _ => rfl, fun a b ha hb => ?_⟩
  obtain ⟨a', rfl⟩ := Int.eq_ofNat_of_zero_le ha.1
  obtain ⟨b', rfl⟩ := Int.eq_ofNat_of_zero_le hb.1
  exact sortsLess_any gl v L a' b' u h (by omega) (by omega)
/-- nothing, in no block -/
def Nob (_ : World) (G : Nat → Prop) : Prop := ∀ q, ¬ G q
theorem Nob.thing : Thing Nob := ⟨fun h _ => h, fun h _ hq => absurd hq (h _)⟩
theorem W2.less {A : World → (Nat → Prop) → Prop} {F G : Nat → Prop} {gl : Nat} {v : Value} {L : List Int} {w0 w : World} (h : W2 (XSo gl v L) w0 w A F Nob G) : Keep F (LessAt vI (.func (.func 15) #[] #[.pointer (some ⟨gl, 0, none⟩)]) (fun a b => decide (lkp L a < lkp L b)) (fun a => 0 ≤ a ∧ a < (L.length : Int))) w :=
  fun u hu => sortsLess (h.kx u (hu.mono fun _ _ hq => .inl hq))
/-- the first k indexes -/
def idx (k : Nat) : List Int := (List.range k).map fun (i : Nat) => (i : Int)
theorem idx_snoc (k : Nat) : idx (k + 1) = idx k ++ [(k : Int)] := by simp [idx, List.range_succ]
theorem idx_len (k : Nat) : (idx k).length = k := by simp [idx]
theorem idx_mem {k : Nat} {y : Int} (h : y ∈ idx k) : 0 ≤ y ∧ y < k := by
  simp only [idx, List.mem_map, List.mem_range] at h
  obtain ⟨i, hi, rfl⟩ := h
  omega
theorem idx_inv (L : Int → Int) (n : Nat) : SInv L n (idx n) (-1) where
  rise := by
    unfold idx
    rw [List.pairwise_map]
    exact List.pairwise_lt_range.imp fun h => by omega
  rng y hy := idx_mem hy
  low := by omega
  lst h := by omega

set_option maxHeartbeats 3200000 in
theorem heapSorts_any {HP : World → (Nat → Prop) → Nat → Value → (Int → Int → Bool) → Nat → List Int → Prop} (hK : HeapI HP) (vl : Value) (L : List Int) (w : World) (hl : Lv 1 w vl (L.map iC)) :
    Calls Try.prog 4 #[vl] w fun e w' => e = .returned (.bool true) ∧ Below w.heap.size w w' := by
  have HK := Lib.hid hK
  have HL := Lib.hid hl
  have hmf : ∀ (fn : Fn) (first cap : Array Value) (w : World), (Instr.makeFunc fn first cap).run Try.prog w = .ok (.func fn first cap) w := fun _ _ _ _ => rfl
  obtain ⟨A, c, rfl, hc1, hc2⟩ := hl.form
  rw [List.length_map] at HL hc1 ⊢
  clear hl hK
  have ha0 : Below w.heap.size w (w.alloc (.cells #[.slice A L.length c] 39)) := (Below.refl _ w).alloc (Nat.le_refl _) _
  have hx0 : XSo w.heap.size (.slice A L.length c) L (w.alloc (.cells #[.slice A L.length c] 39)) := ⟨(Blk.new w _ #[.slice A L.length c]).cell 0, HL.out.below ha0⟩
  have hwz : w.heap.size < (w.alloc (.cells #[.slice A L.length c] 39)).heap.size := by simp
  have HX0 := Lib.hid hx0
  have HA0 := Lib.hid ha0
  have HWZ := Lib.hid hwz
  clear ha0 hx0 hwz
  go_enter Try.func4, Try.ntmps4
  go_wp2_with fail
  refine (up9_any HK.out _).mono ?_
  rintro e w1 ⟨rfl, hb1⟩
  have HB1 : Hid (Below w.heap.size w w1) := Lib.hid (HA0.out.trans (hb1.mono (Nat.le_of_lt HWZ.out)))
  have HX1 : Hid (XSo w.heap.size (.slice A L.length c) L w1) := Lib.hid (HX0.out.below HWZ.out hb1)
  have HZ1 : Hid (w.heap.size < w1.heap.size) := Lib.hid (Nat.lt_of_lt_of_le HWZ.out hb1.size)
  have k1 := HX1.out.1
  clear hb1
  by_cases hbig : 300 < L.length
  · go_wp2_with fail
    go_ret
    exact ⟨rfl, HB1.out⟩
  go_wp2_with fail
  have hN := HK.out.new_ok w1 15 #[.pointer (some ⟨w.heap.size, 0, none⟩)] (fun a b => decide (lkp L a < lkp L b))
  refine hN.mono ?_
  rintro e w2 ⟨g, F, rfl, hP2, hb2, hF2⟩
  have hW2 : W2 (XSo w.heap.size (.slice A L.length c) L) w w2 (fun u F => HP u F g (.func (.func 15) #[] #[.pointer (some ⟨w.heap.size, 0, none⟩)]) (fun a b => decide (lkp L a < lkp L b)) 0 (idx 0)) F Nob (fun _ => False) :=
    ⟨HB1.out.trans (hb2.mono HB1.out.size), hP2, fun _ h => h, fun q hq => Nat.le_trans HB1.out.size (hF2 q hq), fun _ hq => hq.elim, fun _ _ hq => hq, (HX1.out.below HZ1.out hb2).keep (Nat.lt_of_lt_of_le HZ1.out hb2.size) (fun hb => by
      have h1 := HZ1.out
      rcases hb with hb | hb
      · have := hF2 _ hb
        omega
      · exact hb) (fun hne q hq hb => by
      have h1 := HZ1.out
      obtain ⟨x, hx⟩ : ∃ x, L[0]? = some x := ⟨_, List.getElem?_eq_getElem (List.length_pos_iff.2 hne)⟩
      obtain ⟨q', p', hA, hq', _⟩ := HL.out.cells (by omega) (i := 0) (x := iC x) (by rw [List.getElem?_map, hx]; rfl)
      subst hA
      have hqq : q' = q := by simpa [Value.ownBlock] using hq
      rcases hb with hb | hb
      · have := hF2 _ hb
        omega
      · exact hb)⟩
  have HW2 := Lib.hid hW2
  have k2 := hW2.x.1
  have hfv : ∀ (u : World) (F : Nat → Prop) (n : Nat) (h : List Int), W2 (XSo w.heap.size (.slice A L.length c) L) w u (fun u F => HP u F g (.func (.func 15) #[] #[.pointer (some ⟨w.heap.size, 0, none⟩)]) (fun a b => decide (lkp L a < lkp L b)) n h) F Nob (fun _ => False) → True := fun _ _ _ _ _ => trivial
  clear hN hP2 hb2 hF2 hW2 hfv k1
  go_wp2_with fail
  generalize hgl : w.heap.size = gl at *
  generalize hfe : (Value.func (.func 15) #[] #[.pointer (some ⟨gl, 0, none⟩)]) = fv at *
  have HLs : Hid (∀ (u : World) (F : Nat → Prop) (n : Nat) (h : List Int), W2 (XSo gl (.slice A L.length c) L) w u (fun u F => HP u F g fv (fun a b => decide (lkp L a < lkp L b)) n h) F Nob (fun _ => False) → Keep F (LessAt vI fv (fun a b => decide (lkp L a < lkp L b)) (fun a => 0 ≤ a ∧ a < (L.length : Int))) u) := Lib.hid fun u F n h hW => by
    rw [← hfe]
    exact hW.less
  clear hfe
  go_loopg [5] L.length (fun gk iv wr => ∃ (k : Nat) (F : Nat → Prop), k + gk = L.length ∧ iv = .int .i64 (k : Int) ∧ Hid (W2 (XSo gl (.slice A L.length c) L) w wr (fun u F => HP u F g fv (fun a b => decide (lkp L a < lkp L b)) k (idx k)) F Nob (fun _ => False)))
  case atStart => exact ⟨0, F, by omega, rfl, HW2⟩
  case round =>
    obtain ⟨k, F, hk, rfl, HW⟩ := hrel
    have k3 := HW.out.x.1
    by_cases hlt : k < L.length
    · obtain ⟨gk1, hgk1⟩ : ∃ x, gk = x + 1 := ⟨gk - 1, by omega⟩
      have hC := HK.out.push (x := (k : Int)) HW.out.a (weakL (lkp L) fun a => 0 ≤ a ∧ a < (L.length : Int)) (HLs.out _ _ _ _ HW.out) (fun y hy => by have := idx_mem hy; omega) (by omega) (by rw [idx_len]; omega) (by omega)
      rw [show vI (k : Int) = .int .i64 (k : Int) from rfl] at hC
      go_wp2_with fail
      refine hC.mono ?_
      rintro e w3 ⟨rfl, F3, hP3, hA3, hN3⟩
      rw [← idx_snoc] at hP3
      have HW3 := Lib.hid (HW.out.stepA (A' := fun u F => HP u F g fv (fun a b => decide (lkp L a < lkp L b)) (k + 1) (idx (k + 1))) (HK.out.thing _ _ _ _ _) Nob.thing hP3 hA3 hN3)
      clear hC hP3 hA3 hN3
      go_wp2_with fail
      go_roundg gk1
      case measure => omega
      case rel => exact ⟨k + 1, F3, by omega, by go_num, HW3⟩
    · have hkn : k = L.length := by omega
      subst hkn
      have HI0 := Lib.hid (idx_inv (lkp L) L.length)
      clear hlt hk
      go_wp2_with fail
      clear k3 k2
      go_loopg [6, 7] L.length (fun gk lv iv wq => ∃ (k : Nat) (last : Int) (h : List Int) (F : Nat → Prop), k + gk = L.length ∧ iv = .int .i64 (k : Int) ∧ lv = .int .i64 last ∧ Hid (W2 (XSo gl (.slice A L.length c) L) w wq (fun u F => HP u F g fv (fun a b => decide (lkp L a < lkp L b)) L.length h) F Nob (fun _ => False) ∧ SInv (lkp L) L.length h last ∧ h.length + k = L.length))
      case atStart => exact ⟨0, -1, _, F, by omega, rfl, rfl, Lib.hid ⟨HW.out, HI0.out, by rw [idx_len]; omega⟩⟩
      case round =>
        obtain ⟨k, last, h, F, hk, rfl, rfl, HM⟩ := hrel
        clear HW HI0
        have k3 := HM.out.1.x.1
        have hhk := HM.out.2.2
        by_cases hlt : k < L.length
        · obtain ⟨gk1, hgk1⟩ : ∃ x, gk = x + 1 := ⟨gk - 1, by omega⟩
          obtain ⟨i, x, hF⟩ := isFirst_ex (weakL (lkp L) fun a => 0 ≤ a ∧ a < (L.length : Int)) h (fun e => by rw [e] at hhk; simp at hhk; omega) (fun y hy => HM.out.2.1.rng y hy)
          obtain ⟨hx, hchk, hI⟩ := HM.out.2.1.pop hF
          have hlow := HM.out.2.1.low
          have hlen : (h.eraseIdx i).length + (k + 1) = L.length := by
            rw [List.length_eraseIdx_of_lt (List.getElem?_eq_some_iff.1 hF.at_).1]
            have := (List.getElem?_eq_some_iff.1 hF.at_).1
            omega
          have HIn := Lib.hid (And.intro hI hlen)
          have hC := HK.out.pop HM.out.1.a (weakL (lkp L) fun a => 0 ≤ a ∧ a < (L.length : Int)) (HLs.out _ _ _ _ HM.out.1) (fun y hy => HM.out.2.1.rng y hy) hF (by omega)
          rw [show vI x = .int .i64 x from rfl] at hC
          clear hI hlen hF
          obtain ⟨x', rfl⟩ := Int.eq_ofNat_of_zero_le hx.1
          have HCK := Lib.hid hchk
          have HGK := Lib.hid hgk1
          have HKG : Hid (k + (gk1 + 1) = L.length) := Lib.hid (by omega)
          clear hchk hgk1 hk hhk
          go_wp2_with fail
          refine hC.mono ?_
          rintro e w3 ⟨rfl, F3, hP3, hA3, hN3⟩
          have hW3 := HM.out.1.stepA (A' := fun u F => HP u F g fv (fun a b => decide (lkp L a < lkp L b)) L.length (h.eraseIdx i)) (HK.out.thing _ _ _ _ _) Nob.thing hP3 hA3 hN3
          have HW3 := Lib.hid hW3
          have hX3 := hW3.x
          have k4 := hX3.1
          have a0 : (0 : Int) ≤ (x' : Int) := hx.1
          have a1 : (x' : Int) < (L.length : Int) := hx.2
          have a2 : ¬ (x' : Int) < 0 := by omega
          have a3 : ¬ (L.length : Int) ≤ (x' : Int) := by omega
          by_cases hl0 : last < 0
          · clear hC hP3 hA3 hN3 hW3 hX3 hx
            go_wp2_with fail
            go_roundg gk1
            case measure => have := HGK.out; omega
            case rel => exact ⟨k + 1, (x' : Int), _, F3, by have := HKG.out; omega, by go_num, rfl, Lib.hid ⟨HW3.out, HIn.out.1, HIn.out.2⟩⟩
          · obtain ⟨y', rfl⟩ := Int.eq_ofNat_of_zero_le (a := last) (by omega)
            obtain ⟨q, p, rfl, c0⟩ := hX3.at_ (lkp_at L x' (by omega))
            obtain ⟨q', p', hA, c0'⟩ := hX3.at_ (lkp_at L y' (by omega))
            injection hA with hA
            injection hA with hA1 hA2
            subst hA1 hA2
            have hck := HCK.out (by omega)
            have b0 : (0 : Int) ≤ (y' : Int) := by omega
            have b1 : (y' : Int) < (L.length : Int) := hlow.2
            generalize lkp L (x' : Int) = u1 at *
            generalize lkp L (y' : Int) = u2 at *
            clear hC hP3 hA3 hN3 hW3 hX3 hx HCK
            by_cases heq : u1 = u2
            · subst heq
              have d1 : ¬ u1 < u1 := by omega
              have d2 : ¬ (x' : Int) ≤ (y' : Int) := fun hh => hck.2 ⟨rfl, hh⟩
              clear hck
              go_wp2_with fail
              go_quiet (fail)
              go_wp2_with fail
              go_roundg gk1
              case measure => have := HGK.out; omega
              case rel => exact ⟨k + 1, (x' : Int), _, F3, by have := HKG.out; omega, by go_num, rfl, Lib.hid ⟨HW3.out.later (HK.out.thing _ _ _ _ _) Nob.thing (below_drewN (Below.refl _ _) _), HIn.out.1, HIn.out.2⟩⟩
            · have d1 : ¬ u1 < u2 := by
                have := hck.1
                omega
              have d2 : (u1 == u2) = false := by simp [heq]
              clear hck
              go_wp2_with fail
              go_quiet (fail)
              go_wp2_with fail
              go_roundg gk1
              case measure => have := HGK.out; omega
              case rel => exact ⟨k + 1, (x' : Int), _, F3, by have := HKG.out; omega, by go_num, rfl, Lib.hid ⟨HW3.out.later (HK.out.thing _ _ _ _ _) Nob.thing (below_drewN (Below.refl _ _) _), HIn.out.1, HIn.out.2⟩⟩
        · have hh : h = [] := List.eq_nil_of_length_eq_zero (by omega)
          subst hh
          have hC := HK.out.pop_none HM.out.1.a
          go_wp2_with fail
          refine hC.mono ?_
          rintro e w3 ⟨rfl, F3, hP3, hA3, hN3⟩
          have hW3 := HM.out.1.stepA (A' := fun u F => HP u F g fv (fun a b => decide (lkp L a < lkp L b)) L.length []) (HK.out.thing _ _ _ _ _) Nob.thing hP3 hA3 hN3
          have HB3 := Lib.hid hW3.below
          clear hC hP3 hA3 hN3 hW3
          go_wp2_with fail
          go_ret
          subst hgl
          exact ⟨rfl, HB3.out⟩
end Go.Proofs.Ytpcaecnkdcobmaa

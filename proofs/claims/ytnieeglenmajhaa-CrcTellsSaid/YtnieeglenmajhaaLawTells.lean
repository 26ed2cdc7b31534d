/-
  tankardlaw02.CrcTells returns true for every input, and each argument reads afterwards as it read before. No condition.
-/
import Derived.Test.YtnieeglenmajhaaCrcE
import Derived.Test.YtnieeglenmajhaaRow
namespace Go.Proofs.Ytnieeglenmajhaa
open Go.ChangeShapes Go.WideShapes Go.ChangeAt Go.RowKit

theorem BV_set (l : List UInt8) (i : Nat) (b : UInt8) : (BV l).set i (.int .u8 (b.toNat : Int)) = BV (l.set i b) := by simp [BV, List.map_set]

/-- one byte of a slice of the call's own is stored -/
theorem Own.stored {w : World} {base : Nat} {e : TypeId} {l : List UInt8} {g n cap : Nat} (hn : n = l.length) (h : Own w base e (.slice (some ⟨g, 0, none⟩) n cap) l) (i : Nat) (b : UInt8) (u : Value) (hu : u = .int .u8 (b.toNat : Int)) :
    Own (w.setCell ⟨g, i, none⟩ u) base e (.slice (some ⟨g, 0, none⟩) n cap) (l.set i b) ∧ w.grownBy (w.setCell ⟨g, i, none⟩ u) (some g) := by
  subst hn
  subst hu
  have h2 := World.ownsRow.stored h i (.int .u8 (b.toNat : Int))
  rw [BV_set] at h2
  refine ⟨?_, h2.2⟩
  unfold Own
  rw [List.length_set]
  exact h2.1

theorem tells_pure (l : List UInt8) (i : Nat) (x : UInt8) (h : i < l.length + 4) (hx : x ≠ 0) :
    ∃ (y : UInt8) (m : List UInt8), (sealedOf l)[i]? = some y ∧ m = (sealedOf l).set i (y ^^^ x) ∧ m.length = l.length + 4 ∧ tailOf m ≠ crcOf (bodyOf m) := by
  have hs := sealedOf_length l
  have hi : i < (sealedOf l).length := by omega
  exact ⟨(sealedOf l)[i], _, List.getElem?_eq_getElem hi, rfl, by simp [hs], altered l i x hi hx⟩

set_option maxRecDepth 100000 in
set_option maxHeartbeats 1600000 in
theorem tells_any (l : List UInt8) (b : Value) (k x : Int) (w : World) (hb : Bs w b l) (hl : l.length ≤ 9223372036854775807) (hx0 : 0 ≤ x) (hx1 : x ≤ 255) :
    Calls Try.prog 6 #[b, .int .i64 k, .int .u8 x] w fun e w' => e = .returned (.bool true) ∧ Below w.heap.size w w' := by
  have hb' := hb
  obtain ⟨A, c, rfl, hc1, hc2, hr⟩ := hb'
  by_cases hlong : 3000 < l.length
  · go_enter Try.func6, Try.ntmps6
    go_wp2_with (go_at_call 7; refine (up2_any _).mono ?_; rintro e w1 ⟨rfl, hb1⟩)
    go_ret
    exact ⟨rfl, hb1⟩
  have hsl := sealedOf_length l
  go_enter Try.func6, Try.ntmps6
  go_wp2_with fail
  refine (up2_any _).mono ?_
  rintro e w1 ⟨rfl, hb1⟩
  have hz1 := hb1.size
  go_wp2_with fail
  refine (seal_any l _ _ (by omega) (hb.below hb1)).mono ?_
  rintro e w2 ⟨v2, rfl, hown2, hb2⟩
  have hb12 : Below w.heap.size w w2 := hb1.trans (hb2.mono hz1)
  have hz2 := hb12.size
  have hz12 := hb2.size
  obtain ⟨g, cap, hv2, hg1, hg2⟩ := World.ownsRow.form hown2 (by omega)
  rw [hsl] at hv2
  subst hv2
  go_wp2_with fail
  refine (open_long (sealedOf l) _ _ (by omega) (by omega) hown2.bs).mono ?_
  rintro e w3 ⟨o3, f3, rfl, hO, hb3⟩
  obtain ⟨rfl, hown3⟩ := hO.yes (tail_sealed l)
  rw [body_sealed] at hown3
  have hb13 : Below w.heap.size w w3 := hb12.trans (hb3.mono hz2)
  have hz3 := hb3.size
  have hst1 := strOf hown3.bs
  have hst2 := strOf (hb.below hb13)
  have hlen : (((l.length + 4 : Nat) : Int) == (l.length : Int) + 4) = true := by simp
  clear hO
  by_cases hk : k < 0
  · go_wp2_with fail
    go_ret
    exact ⟨rfl, hb13⟩
  by_cases hk2 : (l.length : Int) + 4 ≤ k
  · go_wp2_with fail
    go_ret
    exact ⟨rfl, hb13⟩
  by_cases hx : x = 0
  · subst hx
    go_wp2_with fail
    go_ret
    exact ⟨rfl, hb13⟩
  obtain ⟨k, rfl⟩ := nat_of (n := k) (by omega)
  obtain ⟨x, rfl⟩ := nat_of hx0
  have hxn : UInt8.ofNat x ≠ 0 := by
    intro h
    have := congrArg UInt8.toNat h
    rw [UInt8.toNat_ofNat'] at this
    simp at this
    omega
  obtain ⟨y, m, hy, hm, hml, hbad⟩ := tells_pure l k (UInt8.ofNat x) (by omega) hxn
  have hown2' : Own w3 w1.heap.size 5 (.slice (some ⟨g, 0, none⟩) (l.length + 4) cap) (sealedOf l) := hown2.below hb3
  have hcell : w3.cell? ⟨g, k, none⟩ = some (.int .u8 (y.toNat : Int)) := by
    have h := World.ownsRow.cells hown2' (g := g) rfl k (.int .u8 (y.toNat : Int)) (by rw [BV_getElem?, hy]; rfl)
    rw [Addr.add_lit, Nat.zero_add] at h
    exact h
  have hfro : w3.frozen? ⟨g, k, none⟩ = false := World.ownsRow.frozenAt (n := l.length + 4) (by have h := hown2'; unfold Own at h; rw [hsl] at h; exact h) k
  obtain ⟨z, hzz⟩ : ∃ z, z = y ^^^ UInt8.ofNat x := ⟨_, rfl⟩
  rw [← hzz] at hm
  have hxor : bits .xor .u8 (y.toNat : Int) (x : Int) = (z.toNat : Int) := by
    have hyl := y.toNat_lt
    have h := u8_xor_nat y.toNat x (by omega) (by omega)
    rw [h, hzz, UInt8.toNat_xor, UInt8.toNat_ofNat', Nat.mod_eq_of_lt (by omega)]
  have hx0' : (((x : Nat) : Int) == 0) = false := by
    rw [beq_eq_false_iff_ne]
    exact hx
  have HBAD := Lib.hid hbad
  have hst := Own.stored hsl.symm hown2' k z (.int .u8 (z.toNat : Int)) rfl
  rw [← hm] at hst
  have HST := Lib.hid hst
  have hml1 : m.length ≤ l.length + 4 := by omega
  have hml2 : l.length + 4 ≤ m.length := by omega
  clear hbad hm hst hy hml hx hxn hown2 hown2' hzz
  have eqc := eqCode
  go_wp2_with fail
  refine (open_long m _ _ (by omega) (by omega) HST.out.1.bs).mono ?_
  rintro e w4 ⟨o4, f4, rfl, hO, hb4⟩
  obtain ⟨rfl, rfl⟩ := hO.no HBAD.out
  have hbs := hb13.grown HST.out.2 (by omega) (by intro j hj; injection hj; omega)
  have hb14 := hbs.trans (hb4.mono hbs.size)
  clear hO hcell hfro hxor
  go_wp2_with fail
  go_ret
  exact ⟨rfl, hb14⟩

set_option maxRecDepth 100000 in
theorem crcTells_lifted (os : Os) (started : os.Started) (H : Type) (enc : TypeId × Value → H) :
    ReturnsInHanded {} Try.checked os 6 .any (Rows.crcTellsSpec.pre6 enc Try.prog Try.f6 Rows.crcTellsRow.domain false) (Rows.crcTellsSpec.post enc Try.prog Try.f6 false true false false) := by
  refine returnsInHanded_of_change (C := Try.checked) ownK started (by kernel_rfl) Try.func6
    (ChangeSpec.witness6 (enc := enc) (C := Try.checked) false ⟨#[], #[.slice none 0 0, .int .i64 0, .int .u8 0], []⟩ 8 (by kernel_rfl) (by kernel_rfl) (by kernel_rfl) (by kernel_rfl)) ?_
  intro W base args ds gs before hval0 hW _ _
  have hval : ∀ (j : Nat) t v, Try.f6.params[j]? = some t → args[j]? = some v → Value.okWide Try.prog W .any base t v := hval0
  have hW' := hW
  obtain ⟨p, q, hA0, hV, rfl, hfz, hnd⟩ := hW
  have hA : DataW.TrodAll enc Try.prog W 0 (fun _ => true) true Try.f6.params.toList args.toList ds p := hA0
  rw [Try.params6] at hA hval
  obtain ⟨v0, v1, v2, d0, d1, d2, p0, p1, p2, rfl, rfl, rfl, h0, h1, h2⟩ := trodAll_three hA
  obtain ⟨rfl, rfl⟩ := trodVars_none hV
  obtain ⟨l0, hl0, hm0⟩ := bs_of_trod byteT cellsB (hval 0 _ v0 rfl rfl) h0
  obtain ⟨n1, rfl, rfl, rfl, wn1⟩ := open_int Try.underlying3 (hval 1 _ v1 rfl rfl) h1
  obtain ⟨n2, rfl, rfl, rfl, wn2⟩ := open_int Try.underlying5 (hval 2 _ v2 rfl rfl) h2
  have hn2 : 0 ≤ n2 ∧ n2 ≤ 255 := by simpa [Lit.wf, IntKind.min, IntKind.max, IntKind.signed, IntKind.bits] using wn2
  refine (tells_any l0 v0 n1 n2 W hl0 hm0 hn2.1 hn2.2).mono fun e W' ⟨he, hb⟩ => ?_
  subst he
  exact ⟨_, rfl, law_post (P := Try.prog) (f := Try.f6) (s := Rows.crcTellsSpec) Try.underlying4 (by kernel_rfl) laidO (by decide +kernel) rfl hW' rfl rfl rfl hb⟩

theorem crcTells_holds : Rows.CrcTellsSaid :=
  OpenClaim.holds_of_wide 6 Try.f6 rfl rfl rfl rfl rfl rfl rfl ⟨rfl, rfl, rfl, rfl, rfl⟩ rfl rfl rfl rfl rfl (by kernel_rfl) Try.func6 (by kernel_rfl)
    (of_decide_eq_true (by kernel_rfl)) (by unfold Func.isWrapper; first | (rw [if_pos (by decide +kernel)]; kernel_rfl) | (rw [if_neg (by decide +kernel)]; exact ⟨rfl, rfl⟩))
    (fun os started H enc _ => crcTells_lifted os started H enc)

end Go.Proofs.Ytnieeglenmajhaa

/-
  THE PROGRAM's STORE KEEPS WHAT A STORE IS TO KEEP ('storeK'); the head of layer 6's statements. No condition.
-/
import Derived.Test.YtihpnkhkbbakbaaStJ
import Derived.Test.YtihpnkhkbbakbaaStE
import Derived.Lib.SlBytesConst
namespace Go.Proofs.Ytihpnkhkbbakbaa
open Go.RowKit Go.Maps
set_option maxRecDepth 100000

theorem storeK : StoreK PSt where
  keep h ha := h.keep ha
  lt h := h.lt
  new_ok room w h0 h1 := snew_ok room w h0 h1
  new_no room w h := snew_no room w h
  put h hm hN hn hb hs hl := stPut_any h hm hN hn hb hs hl
  get h hm hN hn := stGet_any h hm hN hn
  list h hm hN hp := stList_any h hm hN hp
  del h hm hN hn := stDel_any h hm hN hn
  fail h _ h0 h1 := (sfail_any h h0 h1).mono fun e w' ⟨h2, h3, h4⟩ => ⟨h2, _, h3, Apt.of_grown h4 fun q hq => by injection hq with hq; subst hq; exact h.Fg, fun q hq => .inl hq⟩
  alt h hm _ hn h0 h1 h2 h3 := stAlt_any h hm hn h0 h1 h2 h3
  usedQ h _ _ := sused_any h
  callsQ h _ _ := scalls_any h

theorem Rd.mark6 (w : World) (cs : Array Value) (e : TypeId) (f : Nat × Nat) : Rd (w.alloc (.cells cs e f)) (some ⟨w.heap.size, 0, none⟩) cs.toList :=
  Rd.of_cells (World.news_of_block (heap_alloc_new w _))

/-- the store of the document's example, call by call -/
def ex0 : Sm := ⟨10, -1, 0, []⟩
def ex1 : Sm := ⟨10, 0, 0, []⟩
def ex2 : Sm := ⟨10, -1, 1, []⟩
def ex3 : Sm := ⟨10, -1, 2, [⟨[97], [120]⟩]⟩
def ex4 : Sm := ⟨10, -1, 3, [⟨[97], [120]⟩]⟩
theorem ex01 : failS ex0 0 = ex1 := rfl
theorem ex12 : sPut ex1 [97] [120] = (ex2, 8) := by kernel_rfl
theorem ex23 : sPut ex2 [97] [120] = (ex3, 0) := by kernel_rfl
theorem ex34 : sGet ex3 [97] = ([120], 0) := by kernel_rfl
theorem ex34' : callS ex3 = ex4 := rfl

set_option maxHeartbeats 3200000 in
theorem up6_any {PS : World → (Nat → Prop) → Nat → Sm → Prop} (hK : StoreK PS) (w : World) : Calls Try.prog 5 #[] w fun e w' => e = .returned (.bool true) ∧ Below w.heap.size w w' := by
  have HK := Lib.hid hK
  have eqc := eqCode
  have neq_ := neCode
  have hcv := fun u : World => Lib.run_convert_bytes_const (P := Try.prog) u 34 5 #[.int .u8 120] 1 1 byteT.under byteT.elem
  clear hK
  go_enter Try.func5, Try.ntmps5
  go_wp2_with fail
  refine (HK.out.new_ok 10 _ (by omega) (by omega)).mono ?_
  rintro e w1 ⟨g, F, rfl, hP1, hb1, hF1⟩
  go_wp2_with fail
  refine (HK.out.new_no 0 _ (by omega)).mono ?_
  rintro e w2 ⟨rfl, hb2⟩
  have hB2 := hb1.trans (hb2.mono hb1.size)
  have hP2 : PS w2 F g ex0 := HK.out.keep hP1 (Apt.of_below hb2)
  clear hP1 hb1 hb2
  go_wp2_with fail
  refine (HK.out.fail (N := 0) (n := 0) hP2 ⟨by decide, by decide, by decide, by decide, by decide, by decide, by decide, by decide⟩ (by omega) (by omega)).mono ?_
  rintro e w3 ⟨rfl, F3, hP3, hA3, hN3⟩
  rw [ex01] at hP3
  have hB3 := below_apt hB2 hA3 hF1 hB2.size
  have hF3 : ∀ z, F3 z → w.heap.size ≤ z := fun z hz => by
    rcases hN3 z hz with h | h
    · exact hF1 z h
    · exact Nat.le_trans hB2.size h
  clear hA3 hN3 hP2 hB2 hF1
  go_wp2_with fail
  have hP3a : PS (w3.alloc (.cells #[.int .u8 120] 5 (1, 2))) F3 g ex1 := HK.out.keep hP3 (Apt.of_below ((Below.refl _ _).alloc (Nat.le_refl _) _))
  have hB3a := hB3.alloc hB3.size (.cells #[.int .u8 120] 5 (1, 2))
  have hsep3 : ∀ q, (Value.slice (some ⟨w3.heap.size, 0, none⟩) 1 1).ownBlock = some q → ¬ F3 q := fun q hq hF => by
    simp [Value.ownBlock] at hq
    have := HK.out.lt hP3 q hF
    omega
  have hfine1 : ex1.fine 1 := ⟨by decide, by decide, by decide, by decide, by decide, by decide, by decide, by decide⟩
  have hfine2 : ex2.fine 1 := ⟨by decide, by decide, by decide, by decide, by decide, by decide, by decide, by decide⟩
  have hfine3 : ex3.fine 2 := ⟨by decide, by decide, by decide, by decide, by decide, by decide, by decide, by decide⟩
  have hfine4 : ex4.fine 3 := ⟨by decide, by decide, by decide, by decide, by decide, by decide, by decide, by decide⟩
  have hPut1 := HK.out.put (n := [97]) (b := [120]) hP3a hfine1 (by omega) (by decide) ⟨_, 1, rfl, by decide, by decide, Rd.mark6 w3 #[.int .u8 120] _ _⟩ (fun _ => hsep3) (by decide)
  rw [ex12] at hPut1
  refine hPut1.mono ?_
  rintro e w4 ⟨rfl, F4, hP4, hA4, hN4⟩
  have hB4 := below_apt hB3a hA4 hF3 hB3a.size
  have hF4 : ∀ z, F4 z → w.heap.size ≤ z := fun z hz => by
    rcases hN4 z hz with h | h
    · exact hF3 z h
    · exact Nat.le_trans hB3a.size h
  clear hPut1 hA4 hN4 hP3a hP3 hsep3 hB3a hB3
  rw [errV_code (by omega)]
  go_wp2_with fail
  have hP4a : PS (w4.alloc (.cells #[.int .u8 120] 5 (1, 2))) F4 g ex2 := HK.out.keep hP4 (Apt.of_below ((Below.refl _ _).alloc (Nat.le_refl _) _))
  have hB4a := hB4.alloc hB4.size (.cells #[.int .u8 120] 5 (1, 2))
  have hsep4 : ∀ q, (Value.slice (some ⟨w4.heap.size, 0, none⟩) 1 1).ownBlock = some q → ¬ F4 q := fun q hq hF => by
    simp [Value.ownBlock] at hq
    have := HK.out.lt hP4 q hF
    omega
  have hPut2 := HK.out.put (n := [97]) (b := [120]) hP4a hfine2 (by omega) (by decide) ⟨_, 1, rfl, by decide, by decide, Rd.mark6 w4 #[.int .u8 120] _ _⟩ (fun _ => hsep4) (by decide)
  rw [ex23] at hPut2
  refine hPut2.mono ?_
  rintro e w5 ⟨rfl, F5, hP5, hA5, hN5⟩
  have hB5 := below_apt hB4a hA5 hF4 hB4a.size
  have hF5 : ∀ z, F5 z → w.heap.size ≤ z := fun z hz => by
    rcases hN5 z hz with h | h
    · exact hF4 z h
    · exact Nat.le_trans hB4a.size h
  clear hPut2 hA5 hN5 hP4a hP4 hsep4 hB4a hB4
  rw [errV_zero]
  have hGet := HK.out.get (n := [97]) hP5 hfine3 (by omega) (by decide)
  rw [ex34, ex34'] at hGet
  clear hcv
  go_wp2_with fail
  refine hGet.mono ?_
  rintro e w6 ⟨x, F6, rfl, hx, hP6, hA6, _, _⟩
  have hB6 := below_apt hB5 hA6 hF5 hB5.size
  have hst := strOf hx.bs
  obtain ⟨Ax, cx, hxv, _⟩ := hx.form
  subst hxv
  replace hst : (convert 34 9 (.slice Ax 1 cx)).run Try.prog w6 = .ok (.string ⟨#[120]⟩) w6 := hst
  have hCalls := HK.out.calls hP6 hfine4 (by omega)
  rw [errV_zero]
  clear hGet hA6
  go_wp2_with fail
  refine hCalls.mono ?_
  rintro e w7 ⟨rfl, hb7⟩
  have hUsed := HK.out.used (HK.out.keep hP6 (Apt.of_below hb7)) hfine4 (by omega)
  have hB7 := hB6.trans (hb7.mono hB6.size)
  go_wp2_with fail
  refine hUsed.mono ?_
  rintro e w8 ⟨rfl, hb8⟩
  go_wp2_with fail
  go_ret
  exact ⟨rfl, hB7.trans (hb8.mono hB7.size)⟩
end Go.Proofs.Ytihpnkhkbbakbaa

/-
  CONTRACT of the document's Make; the head of layer 14's statements. Conditions: at most 200 traces, 10000000 spans; of the library's tables: Ld.
  BlockMakes, walked: what is to be put of any traces, in any sizes. Conditions: what each says; of the library's tables: Ld.
-/
import Derived.Test.YtnghpcfdgjkokaaGreatDoorBkI
namespace Go.Proofs.YtnghpcfdgjkokaaGreatDoor
open Go.RowKit
set_option maxRecDepth 100000

theorem DMake_any (id : Nat) (lv : Int) (v : Value) (l : List Tn) (s : Sz) (w : World) (h : Ts w v l) (hid : id < 18446744073709551616) (hll : l.length ≤ 200) (hfl : (flatT l).length ≤ 10000000) :
    Calls Tryz.prog 9 #[.int .u64 (id : Int), .int .i64 lv, v, szV s] w fun e w' => DMakeP w w' id lv l s e ∧ Below w.heap.size w w' := by
  rcases Classical.em (BkOk id lv l s) with hok | hno
  · exact DMake_good id lv v l s w h hid hll hfl hok
  · exact DMake_bad id lv v l s w h hno

def exS : Sz := ⟨64, 1, 64, 2⟩
def exN : Sn := ⟨5, 1, 0, 3, []⟩
def exL : List Tn := [⟨5, [exN]⟩]
theorem exN_ok : exN.ok := by constructor <;> decide
theorem exL_is : IsT exL := by
  refine ⟨fun k t hk => ?_, fun k t u h1 h2 => ?_⟩
  · match k, hk with
    | 0, hk =>
      injection hk with hk
      subst hk
      refine ⟨by decide, by decide, fun j s hj => ?_, fun j s t h1 h2 => ?_, fun i j s t hij h1 h2 => ?_⟩
      · match j, hj with
        | 0, hj =>
          injection hj with hj
          subst hj
          exact ⟨rfl, by decide⟩
        | j + 1, hj => simp at hj
      · simp at h2
      · match j, hij, h2 with
        | 0, hij, _ => omega
        | j + 1, _, h2 => simp at h2
    | k + 1, hk => simp [exL] at hk
  · simp [exL] at h2
theorem exOk : BkOk 1 0 exL exS := ⟨by decide, by decide, exL_is, by decide, by decide, by decide⟩
theorem exPages : (pagesOf exL exS).length = 1 := by
  have h1 := pages_len exL exS
  have h2 := pages_some exOk.ne exS
  have : exL.length = 1 := rfl
  omega
theorem exMe : (bkMe 1 0 exL exS).en = 3 ∧ (bkMe 1 0 exL exS).pg = 1 := ⟨by decide, by
  show (((pagesOf exL exS).length : Nat) : Int) = 1
  rw [exPages]
  rfl⟩

theorem plainS_any (w : World) : Calls Tryz.prog 27 #[] w fun e w' => e = .returned (.agg #[.int .i64 64, .int .i64 1, .int .i64 64, .int .i64 2]) ∧ Below w.heap.size w w' := by
  have hm := Blk.new w 25 #[.int .i64 64, .int .i64 1, .int .i64 64, .int .i64 2]
  go_enter Tryz.func27, Tryz.ntmps27
  go_wp2_with fail
  refine bodyPost_ret (v := .agg #[.int .i64 64, .int .i64 1, .int .i64 64, .int .i64 2]) (by have c := hm.cell; simp [results, go_sem, c]; try rfl) rfl ?_
  exact ⟨rfl, (Below.refl _ _).alloc (Nat.le_refl _) _⟩

theorem ex_ts (w : World) : Ts ((w.alloc (.cells #[.int .u64 5, .int .u64 1, .int .i64 0, .int .i64 3, .slice none 0 0] 72)).alloc (.cells #[.int .u64 5, .slice (some ⟨w.heap.size, 0, none⟩) 1 1] 75)) (.slice (some ⟨w.heap.size + 1, 0, none⟩) 1 1) exL := by
  have h1 := Lv.lit1 (w := w) [.int .u64 5, .int .u64 1, .int .i64 0, .int .i64 3, .slice none 0 0] 72
  have h2 := Lv.lit1 (w := w.alloc (.cells #[.int .u64 5, .int .u64 1, .int .i64 0, .int .i64 3, .slice none 0 0] 72)) [.int .u64 5, .slice (some ⟨w.heap.size, 0, none⟩) 1 1] 75
  have hb : Below (w.heap.size + 1) (w.alloc (.cells #[.int .u64 5, .int .u64 1, .int .i64 0, .int .i64 3, .slice none 0 0] 72)) ((w.alloc (.cells #[.int .u64 5, .int .u64 1, .int .i64 0, .int .i64 3, .slice none 0 0] 72)).alloc (.cells #[.int .u64 5, .slice (some ⟨w.heap.size, 0, none⟩) 1 1] 75)) := (Below.refl _ _).alloc (by simp) _
  have h3 := h1.below (w' := (w.alloc (.cells #[.int .u64 5, .int .u64 1, .int .i64 0, .int .i64 3, .slice none 0 0] 72)).alloc (.cells #[.int .u64 5, .slice (some ⟨w.heap.size, 0, none⟩) 1 1] 75)) (by simpa using hb)
  refine ⟨[[.int .u64 5, .slice (some ⟨w.heap.size, 0, none⟩) 1 1]], by simpa using h2, Two.nil.snoc (l := []) (m := []) ⟨by constructor <;> decide, _, rfl, ?_⟩⟩
  exact ⟨_, h3, Two.nil.snoc (l := []) (m := []) ⟨exN_ok, _, rfl, Bs.nil _⟩⟩

set_option maxHeartbeats 3200000 in
theorem up14_any (w : World) (hL : Ld w) : Calls Tryz.prog 6 #[] w fun e w' => e = .returned (.bool true) ∧ Below w.heap.size w w' := by
  have HLD := Lib.hid hL
  have hts := ex_ts w
  have eqc := eqCode
  have hb0 : Below w.heap.size w ((w.alloc (.cells #[.int .u64 5, .int .u64 1, .int .i64 0, .int .i64 3, .slice none 0 0] 72)).alloc (.cells #[.int .u64 5, .slice (some ⟨w.heap.size, 0, none⟩) 1 1] 75)) := ((Below.refl _ _).alloc (Nat.le_refl _) _).alloc (by simp) _
  clear hL
  go_enter Tryz.func6, Tryz.ntmps6
  go_wp2_with fail
  revert hts hb0
  generalize (w.alloc (.cells #[.int .u64 5, .int .u64 1, .int .i64 0, .int .i64 3, .slice none 0 0] 72)).alloc (.cells #[.int .u64 5, .slice (some ⟨w.heap.size, 0, none⟩) 1 1] 75) = w1
  intro hts hb0
  refine (plainS_any _).mono ?_
  rintro e w2 ⟨rfl, hb2⟩
  have HT2 := Lib.hid (hts.below hb2)
  have HB2 := Lib.hid (hb0.trans (hb2.mono hb0.size))
  clear hts hb0 hb2
  have hC := bmake_any 1 0 _ exL exS w2 HT2.out (by omega) (by decide) (HLD.out.below HB2.out)
  simp only [szV, exS] at hC
  go_wp2_with fail
  refine hC.mono ?_
  rintro e w3 ⟨hm, hb3⟩
  rcases hm with ⟨hn, _⟩ | ⟨_, x, rfl, hx⟩
  · exact absurd exOk hn
  have HB3 := Lib.hid (HB2.out.trans (hb3.mono HB2.out.size))
  obtain ⟨Ax, cx, hxv, _, _⟩ := hx.form
  rw [bkObs_length, show pagesOf exL ⟨64, 1, 64, 2⟩ = pagesOf exL exS from rfl, exPages] at hxv
  subst hxv
  obtain ⟨e1, e2⟩ := exMe
  simp only [exS] at e1 e2
  generalize bkMe 1 0 exL ⟨64, 1, 64, 2⟩ = m at e1 e2
  obtain ⟨mi, ml, ms, me, mp, mt⟩ := m
  simp only at e1 e2
  subst e1 e2
  simp only [meV]
  clear hC hx hb3 HT2 HB2
  go_wp2_with fail
  have HM4 : Hid (Blk (w3.alloc (.cells #[.int .u64 mi, .int .i64 ml, .int .i64 ms, .int .i64 3, .int .i64 1, .int .i64 mt] 30)) w3.heap.size 30 #[.int .u64 mi, .int .i64 ml, .int .i64 ms, .int .i64 3, .int .i64 1, .int .i64 mt]) := Lib.hid (Blk.new _ _ _)
  have HB4 : Hid (Below w.heap.size w (w3.alloc (.cells #[.int .u64 mi, .int .i64 ml, .int .i64 ms, .int .i64 3, .int .i64 1, .int .i64 mt] 30))) := Lib.hid (HB3.out.alloc HB3.out.size _)
  revert HM4 HB4
  generalize w3.alloc (.cells #[.int .u64 mi, .int .i64 ml, .int .i64 ms, .int .i64 3, .int .i64 1, .int .i64 mt] 30) = w4
  generalize w3.heap.size = g2
  intro HM4 HB4
  refine (plainS_any _).mono ?_
  rintro e w5 ⟨rfl, hb5⟩
  have HM5 := Lib.hid (HM4.out.below hb5 HM4.out.lt)
  have HB5 := Lib.hid (HB4.out.trans (hb5.mono HB4.out.size))
  clear hb5 HM4 HB4 HB3
  have hC := bmake_any 1 0 _ [] exS w5 (Ts.nil _) (by omega) (by decide) (HLD.out.below HB5.out)
  simp only [szV, exS] at hC
  go_wp2_with fail
  refine hC.mono ?_
  rintro e w6 ⟨hm, hb6⟩
  rcases hm with ⟨_, rfl⟩ | ⟨hn, _⟩
  rotate_left
  · exact absurd rfl hn.ne
  have HM6 := Lib.hid (HM5.out.below hb6 HM5.out.lt)
  have HB6 := Lib.hid (HB5.out.trans (hb6.mono HB5.out.size))
  clear hC hb6 HM5 HB5
  simp only [meV, Me.zero]
  have hb7 : Below w6.heap.size w6 (w6.alloc (.cells #[.int .u64 0, .int .i64 0, .int .i64 0, .int .i64 0, .int .i64 0, .int .i64 0] 30)) := (Below.refl _ _).alloc (Nat.le_refl _) _
  have HM7 := Lib.hid (HM6.out.below hb7 HM6.out.lt)
  have HB7 := Lib.hid (HB6.out.trans (hb7.mono HB6.out.size))
  have m3 := HM7.out.cell 3
  have m4 := HM7.out.cell 4
  simp at m3 m4
  have hMay := fun u => bmay_any exS u
  rw [show szB exS = true by decide] at hMay
  simp only [szV, exS] at hMay
  clear hb7 HM6 HB6
  go_wp2_with fail
  refine (plainS_any _).mono ?_
  rintro e w8 ⟨rfl, hb8⟩
  have HB8 := Lib.hid (HB7.out.trans (hb8.mono HB7.out.size))
  clear hb8
  go_wp2_with fail
  refine (hMay _).mono ?_
  rintro e w9 ⟨rfl, hb9⟩
  have HB9 := Lib.hid (HB8.out.trans (hb9.mono HB8.out.size))
  clear hb9
  go_wp2_with fail
  go_ret
  exact ⟨rfl, HB9.out⟩

end Go.Proofs.YtnghpcfdgjkokaaGreatDoor

namespace Go.Proofs.YtnghpcfdgjkokaaGreatDoor
open Go.RowKit
set_option maxRecDepth 100000

open Classical in
/-- what is put, the meta, and the error's number, whatever is handed in -/
noncomputable def bkL (id : Nat) (lv : Int) (l : List Tn) (s : Sz) : List Ob := if BkOk id lv l s then bkObs id lv l s else []
open Classical in
noncomputable def bkM (id : Nat) (lv : Int) (l : List Tn) (s : Sz) : Me := if BkOk id lv l s then bkMe id lv l s else Me.zero
open Classical in
noncomputable def bkC (id : Nat) (lv : Int) (l : List Tn) (s : Sz) : Int := if BkOk id lv l s then 0 else 1
theorem bk_ok {id : Nat} {lv : Int} {l : List Tn} {s : Sz} (h : BkOk id lv l s) : bkL id lv l s = bkObs id lv l s ∧ bkM id lv l s = bkMe id lv l s ∧ bkC id lv l s = 0 := ⟨if_pos h, if_pos h, if_pos h⟩
theorem bk_no {id : Nat} {lv : Int} {l : List Tn} {s : Sz} (h : ¬ BkOk id lv l s) : bkL id lv l s = [] ∧ bkM id lv l s = Me.zero ∧ bkC id lv l s = 1 := ⟨if_neg h, if_neg h, if_neg h⟩
theorem bkC_code (id : Nat) (lv : Int) (l : List Tn) (s : Sz) : 0 ≤ bkC id lv l s ∧ bkC id lv l s ≤ 10 := by
  unfold bkC
  split <;> simp
theorem bkL_len {id : Nat} {lv : Int} {l : List Tn} {s : Sz} (h : l.length ≤ 200) : (bkL id lv l s).length ≤ 203 := by
  rcases Classical.em (BkOk id lv l s) with hk | hk
  · rw [(bk_ok hk).1, bkObs_length]
    have := pages_len l s
    omega
  · rw [(bk_no hk).1]
    simp
theorem ObS.nil (w : World) (base : Nat) : ObS w base (.slice none 0 0) [] := ⟨[], OwnL.nil _ _ _ _, Two.nil⟩
theorem MakeP.all {w w' : World} {id : Nat} {lv : Int} {l : List Tn} {s : Sz} {e : Ending} (h : MakeP w w' id lv l s e) : ∃ x, e = .returned (.tuple #[x, meV (bkM id lv l s), errV (bkC id lv l s)]) ∧ ObS w' w.heap.size x (bkL id lv l s) := by
  rcases h with ⟨hn, he⟩ | ⟨hk, x, he, hx⟩
  · obtain ⟨e1, e2, e3⟩ := bk_no hn
    rw [e1, e2, e3]
    exact ⟨_, he, ObS.nil _ _⟩
  · obtain ⟨e1, e2, e3⟩ := bk_ok hk
    rw [e1, e2, e3]
    exact ⟨x, he, hx⟩
theorem DMakeP.all {w w' : World} {id : Nat} {lv : Int} {l : List Tn} {s : Sz} {e : Ending} (h : DMakeP w w' id lv l s e) : ∃ x, e = .returned (.tuple #[x, meV (bkM id lv l s), .int .i64 (bkC id lv l s)]) ∧ OwnL 2 w' w.heap.size 44 x ((bkL id lv l s).map obC) := by
  rcases h with ⟨hn, he⟩ | ⟨hk, x, he, hx⟩
  · obtain ⟨e1, e2, e3⟩ := bk_no hn
    rw [e1, e2, e3]
    exact ⟨_, he, OwnL.nil _ _ _ _⟩
  · obtain ⟨e1, e2, e3⟩ := bk_ok hk
    rw [e1, e2, e3]
    exact ⟨x, he, hx⟩

set_option maxHeartbeats 6400000 in
theorem blockMakes_any (id : Nat) (lv : Int) (v : Value) (l : List Tn) (s : Sz) (w : World) (h : Ts w v l) (hid : id < 18446744073709551616) (hll : l.length ≤ 140737488355328) (hL : Ld w) :
    Calls Tryz.prog 3 #[.int .u64 (id : Int), .int .i64 lv, v, szV s] w fun e w' => e = .returned (.bool true) ∧ Below w.heap.size w w' := by
  obtain ⟨pg, sh, bi, hs⟩ := s
  obtain ⟨A, c, rfl, hc1, hc2⟩ := h.form
  have H := Lib.hid h
  have HLD := Lib.hid hL
  have HB0 : Hid (Below w.heap.size w (w.alloc (.cells #[.int .i64 pg, .int .i64 sh, .int .i64 bi, .int .i64 hs] 25))) := Lib.hid ((Below.refl _ _).alloc (Nat.le_refl _) _)
  have HS0 : Hid (Blk (w.alloc (.cells #[.int .i64 pg, .int .i64 sh, .int .i64 bi, .int .i64 hs] 25)) w.heap.size 25 #[.int .i64 pg, .int .i64 sh, .int .i64 bi, .int .i64 hs]) := Lib.hid (Blk.new _ _ _)
  have hFew := fun u (hu : Ts u (.slice A l.length c) l) => FewTraces_any _ l 200 u hu hll
  have hMay := fun u => bmay_any ⟨pg, sh, bi, hs⟩ u
  have hSz := fun u => DSizes_any ⟨pg, sh, bi, hs⟩ u
  simp only [szV] at hMay hSz ⊢
  clear h hL
  go_enter Tryz.func3, Tryz.ntmps3
  go_wp2_with fail
  revert HB0 HS0
  generalize w.alloc (.cells #[.int .i64 pg, .int .i64 sh, .int .i64 bi, .int .i64 hs] 25) = w0
  intro HB0 HS0
  refine (up14_any _ (HLD.out.below HB0.out)).mono ?_
  rintro e w1 ⟨rfl, hb1⟩
  have HB1 := Lib.hid (HB0.out.trans (hb1.mono HB0.out.size))
  have HS1 := Lib.hid (HS0.out.below hb1 HS0.out.lt)
  clear hb1 HB0 HS0
  go_wp2_with fail
  refine (hFew _ (H.out.below HB1.out)).mono ?_
  rintro e w2 ⟨rfl, rfl⟩
  clear hFew
  cases hf : fewT l 200 with
  | false =>
    go_wp2_with fail
    go_ret
    exact ⟨rfl, HB1.out⟩
  | true =>
    obtain ⟨f1, f2, _⟩ := pfew (n := 200) hf
    clear hf
    have b0 := HS1.out.cell 0
    have b1 := HS1.out.cell 1
    have b2 := HS1.out.cell 2
    have b3 := HS1.out.cell 3
    simp at b0 b1 b2 b3
    have hC := bmake_any id lv _ l ⟨pg, sh, bi, hs⟩ _ (H.out.below HB1.out) hid (by omega) (HLD.out.below HB1.out)
    simp only [szV] at hC
    go_wp2_with fail
    refine hC.mono ?_
    rintro e w3 ⟨hm, hb3⟩
    obtain ⟨x, rfl, hx⟩ := hm.all
    obtain ⟨m, hme⟩ : ∃ m, m = bkM id lv l ⟨pg, sh, bi, hs⟩ := ⟨_, rfl⟩
    obtain ⟨L, hLe⟩ : ∃ L, L = bkL id lv l ⟨pg, sh, bi, hs⟩ := ⟨_, rfl⟩
    obtain ⟨cd, hce⟩ : ∃ c, c = bkC id lv l ⟨pg, sh, bi, hs⟩ := ⟨_, rfl⟩
    have hcb := bkC_code id lv l ⟨pg, sh, bi, hs⟩
    have hLl := bkL_len (id := id) (lv := lv) (s := ⟨pg, sh, bi, hs⟩) (show l.length ≤ 200 by omega)
    rw [← hme, ← hce]
    rw [← hLe] at hx hLl
    rw [← hce] at hcb
    obtain ⟨mi, ml, ms, mn, mp, mt⟩ := m
    have HME := Lib.hid hme
    have HLE := Lib.hid hLe
    have HCE := Lib.hid hce
    clear hme hLe hce
    simp only [meV]
    obtain ⟨Ax, cx, rfl, _, _⟩ := hx.form
    have hb4 : Below w1.heap.size w1 (w3.alloc (.cells #[.int .u64 mi, .int .i64 ml, .int .i64 ms, .int .i64 mn, .int .i64 mp, .int .i64 mt] 30)) := hb3.alloc hb3.size _
    have HM4 : Hid (Blk (w3.alloc (.cells #[.int .u64 mi, .int .i64 ml, .int .i64 ms, .int .i64 mn, .int .i64 mp, .int .i64 mt] 30)) w3.heap.size 30 #[.int .u64 mi, .int .i64 ml, .int .i64 ms, .int .i64 mn, .int .i64 mp, .int .i64 mt]) := Lib.hid (Blk.new _ _ _)
    have HX4 := Lib.hid (hx.below (u := w3.alloc (.cells #[.int .u64 mi, .int .i64 ml, .int .i64 ms, .int .i64 mn, .int .i64 mp, .int .i64 mt] 30)) ((Below.refl _ _).alloc (Nat.le_refl _) _))
    have HB4 := Lib.hid (HB1.out.trans (hb4.mono HB1.out.size))
    have HS4 := Lib.hid (HS1.out.below hb4 HS1.out.lt)
    have HS3 := Lib.hid (HS1.out.below hb3 HS1.out.lt)
    have hlt3 := HS3.out.lt
    have c0 := HS3.out.cell 0
    have c1 := HS3.out.cell 1
    have c2 := HS3.out.cell 2
    have c3 := HS3.out.cell 3
    simp at c0 c1 c2 c3
    clear hC hm hx hb3 hb4 HB1 HS1 b0 b1 b2 b3
    go_wp2_with fail
    revert HM4 HX4 HB4 HS4
    generalize w3.alloc (.cells #[.int .u64 mi, .int .i64 ml, .int .i64 ms, .int .i64 mn, .int .i64 mp, .int .i64 mt] 30) = w4
    intro HM4 HX4 HB4 HS4
    have b0 := HS4.out.cell 0
    have b1 := HS4.out.cell 1
    have b2 := HS4.out.cell 2
    have b3 := HS4.out.cell 3
    simp at b0 b1 b2 b3
    clear c0 c1 c2 c3 HS3
    have hC := DMake_any id lv _ l ⟨pg, sh, bi, hs⟩ _ (H.out.below HB4.out) hid (by omega) (by omega)
    simp only [szV] at hC
    refine hC.mono ?_
    rintro e w5 ⟨hm, hb5⟩
    obtain ⟨y, rfl, hy⟩ := hm.all
    rw [← HME.out, ← HCE.out]
    rw [← HLE.out] at hy
    simp only [meV]
    obtain ⟨Ay, cy, hyv, _, _⟩ := hy.lv.form
    rw [List.length_map] at hyv
    subst hyv
    have HB5 := Lib.hid (HB4.out.trans (hb5.mono HB4.out.size))
    have HX5 := Lib.hid (HX4.out.below hb5)
    have HM5 := Lib.hid (HM4.out.below hb5 HM4.out.lt)
    have HS5 := Lib.hid (HS4.out.below hb5 HS4.out.lt)
    have hb6 : Below w5.heap.size w5 (w5.alloc (.cells #[.int .u64 mi, .int .i64 ml, .int .i64 ms, .int .i64 mn, .int .i64 mp, .int .i64 mt] 30)) := (Below.refl _ _).alloc (Nat.le_refl _) _
    have HB6 := Lib.hid (HB5.out.trans (hb6.mono HB5.out.size))
    have HX6 := Lib.hid (HX5.out.below hb6)
    have HY6 := Lib.hid (hy.below hb6)
    have HM6 := Lib.hid (HM5.out.below hb6 HM5.out.lt)
    have HS6 := Lib.hid (HS5.out.below hb6 HS5.out.lt)
    have HN6 : Hid (Blk (w5.alloc (.cells #[.int .u64 mi, .int .i64 ml, .int .i64 ms, .int .i64 mn, .int .i64 mp, .int .i64 mt] 30)) w5.heap.size 30 #[.int .u64 mi, .int .i64 ml, .int .i64 ms, .int .i64 mn, .int .i64 mp, .int .i64 mt]) := Lib.hid (Blk.new _ _ _)
    clear hC hm hy hb5 hb6 HB5 HX5 HM5 HS5 HB4 HX4 HM4 HS4 b0 b1 b2 b3
    go_wp2_with fail
    revert HB6 HX6 HY6 HM6 HS6 HN6
    generalize w5.alloc (.cells #[.int .u64 mi, .int .i64 ml, .int .i64 ms, .int .i64 mn, .int .i64 mp, .int .i64 mt] 30) = w6
    intro HB6 HX6 HY6 HM6 HS6 HN6
    have hcl : ∀ u, Below w6.heap.size w6 u → (u.cell? ⟨w3.heap.size, 0, none⟩ = some (.int .u64 mi) ∧ u.cell? ⟨w3.heap.size, 1, none⟩ = some (.int .i64 ml) ∧ u.cell? ⟨w3.heap.size, 2, none⟩ = some (.int .i64 ms) ∧ u.cell? ⟨w3.heap.size, 3, none⟩ = some (.int .i64 mn) ∧ u.cell? ⟨w3.heap.size, 4, none⟩ = some (.int .i64 mp) ∧ u.cell? ⟨w3.heap.size, 5, none⟩ = some (.int .i64 mt)) ∧ (u.cell? ⟨w5.heap.size, 0, none⟩ = some (.int .u64 mi) ∧ u.cell? ⟨w5.heap.size, 1, none⟩ = some (.int .i64 ml) ∧ u.cell? ⟨w5.heap.size, 2, none⟩ = some (.int .i64 ms) ∧ u.cell? ⟨w5.heap.size, 3, none⟩ = some (.int .i64 mn) ∧ u.cell? ⟨w5.heap.size, 4, none⟩ = some (.int .i64 mp) ∧ u.cell? ⟨w5.heap.size, 5, none⟩ = some (.int .i64 mt)) ∧ u.cell? ⟨w.heap.size, 0, none⟩ = some (.int .i64 pg) ∧ u.cell? ⟨w.heap.size, 1, none⟩ = some (.int .i64 sh) ∧ u.cell? ⟨w.heap.size, 2, none⟩ = some (.int .i64 bi) ∧ u.cell? ⟨w.heap.size, 3, none⟩ = some (.int .i64 hs) := fun u hu => by
      have h1 := HM6.out.below hu HM6.out.lt
      have h2 := HN6.out.below hu HN6.out.lt
      have h3 := HS6.out.below hu HS6.out.lt
      exact ⟨⟨by simpa using h1.cell 0, by simpa using h1.cell 1, by simpa using h1.cell 2, by simpa using h1.cell 3, by simpa using h1.cell 4, by simpa using h1.cell 5⟩, ⟨by simpa using h2.cell 0, by simpa using h2.cell 1, by simpa using h2.cell 2, by simpa using h2.cell 3, by simpa using h2.cell 4, by simpa using h2.cell 5⟩, by simpa using h3.cell 0, by simpa using h3.cell 1, by simpa using h3.cell 2, by simpa using h3.cell 3⟩
    generalize szB ⟨pg, sh, bi, hs⟩ = bb at hMay hSz
    refine wp_region_mix [(0, false), (2, false), (1, true), (3, true), (4, false), (5, false), (6, false), (8, false), (7, true), (9, false), (10, false), (11, false), (12, false), (13, false), (14, false), (15, false), (16, false), (17, false), (18, false), (19, false), (20, false), (21, false), (22, false)] (fun u => Below w6.heap.size w6 u) (by kernel_rfl) (by kernel_rfl) (by kernel_rfl) rfl (Below.refl _ _).drew ?_
    iterate 2
      (refine mix_read (o := ⟨_, _, _, _, _, _⟩) (v := ?_) rfl (by rfl) (fun w' hS => ?_) ?_
       rotate_left
       obtain ⟨⟨p0, p1, p2, p3, p4, p5⟩, ⟨q0, q1, q2, q3, q4, q5⟩, s0, s1, s2, s3⟩ := hcl w' hS
       go_simp
       with_reducible rfl
       try simp only [Act.put, List.setIfInBounds_toArray, List.set_cons_zero, List.set_cons_succ])
    refine mix_step (o := ⟨_, _, _, _, _, _⟩) rfl (fun K hK => ?_)
    go_simp
    refine (hMay _).mono ?_
    rintro e w7 ⟨rfl, hb7⟩
    have g7 : Below w6.heap.size w6 w7 := (Below.refl _ w6).drew.trans hb7
    refine hK.out _ _ g7 ?_
    clear hK K hb7
    try simp only [Act.put, List.setIfInBounds_toArray, List.set_cons_zero, List.set_cons_succ]
    refine mix_step (o := ⟨_, _, _, _, _, _⟩) rfl (fun K hK => ?_)
    go_simp
    refine (hSz _).mono ?_
    rintro e w8 ⟨rfl, hb8⟩
    have g8 : Below w6.heap.size w6 w8 := g7.trans (hb8.mono g7.size)
    refine hK.out _ _ g8 ?_
    clear hK K hb8 g7
    try simp only [Act.put, List.setIfInBounds_toArray, List.set_cons_zero, List.set_cons_succ]
    refine mix_read (o := ⟨_, _, _, _, _, _⟩) (v := .bool false) rfl (by rfl) (fun w' hS => by
      obtain ⟨⟨p0, p1, p2, p3, p4, p5⟩, ⟨q0, q1, q2, q3, q4, q5⟩, s0, s1, s2, s3⟩ := hcl w' hS
      go_simp
      try simp) ?_
    try simp only [Act.put, List.setIfInBounds_toArray, List.set_cons_zero, List.set_cons_succ]
    iterate 3
      (refine mix_read (o := ⟨_, _, _, _, _, _⟩) (v := ?_) rfl (by rfl) (fun w' hS => ?_) ?_
       rotate_left
       obtain ⟨⟨p0, p1, p2, p3, p4, p5⟩, ⟨q0, q1, q2, q3, q4, q5⟩, s0, s1, s2, s3⟩ := hcl w' hS
       go_simp
       with_reducible rfl
       try simp only [Act.put, List.setIfInBounds_toArray, List.set_cons_zero, List.set_cons_succ])
    refine mix_step (o := ⟨_, _, _, _, _, _⟩) rfl (fun K hK => ?_)
    go_simp
    refine (Code_err cd _ hcb).mono ?_
    rintro e w9 ⟨rfl, rfl⟩
    refine hK.out _ _ g8 ?_
    clear hK K
    try simp only [Act.put, List.setIfInBounds_toArray, List.set_cons_zero, List.set_cons_succ]
    refine mix_read (o := ⟨_, _, _, _, _, _⟩) (v := .bool false) rfl (by rfl) (fun w' hS => by
      obtain ⟨⟨p0, p1, p2, p3, p4, p5⟩, ⟨q0, q1, q2, q3, q4, q5⟩, s0, s1, s2, s3⟩ := hcl w' hS
      go_simp
      try simp) ?_
    try simp only [Act.put, List.setIfInBounds_toArray, List.set_cons_zero, List.set_cons_succ]
    iterate 4
      (refine mix_read (o := ⟨_, _, _, _, _, _⟩) (v := ?_) rfl (by rfl) (fun w' hS => ?_) ?_
       rotate_left
       obtain ⟨⟨p0, p1, p2, p3, p4, p5⟩, ⟨q0, q1, q2, q3, q4, q5⟩, s0, s1, s2, s3⟩ := hcl w' hS
       go_simp
       with_reducible rfl
       try simp only [Act.put, List.setIfInBounds_toArray, List.set_cons_zero, List.set_cons_succ])
    refine mix_read (o := ⟨_, _, _, _, _, _⟩) (v := .bool false) rfl (by rfl) (fun w' hS => by
      obtain ⟨⟨p0, p1, p2, p3, p4, p5⟩, ⟨q0, q1, q2, q3, q4, q5⟩, s0, s1, s2, s3⟩ := hcl w' hS
      go_simp
      try simp) ?_
    try simp only [Act.put, List.setIfInBounds_toArray, List.set_cons_zero, List.set_cons_succ]
    iterate 6
      (refine mix_read (o := ⟨_, _, _, _, _, _⟩) (v := ?_) rfl (by rfl) (fun w' hS => ?_) ?_
       rotate_left
       obtain ⟨⟨p0, p1, p2, p3, p4, p5⟩, ⟨q0, q1, q2, q3, q4, q5⟩, s0, s1, s2, s3⟩ := hcl w' hS
       go_simp
       with_reducible rfl
       try simp only [Act.put, List.setIfInBounds_toArray, List.set_cons_zero, List.set_cons_succ])
    refine mix_read (o := ⟨_, _, _, _, _, _⟩) (v := .bool false) rfl (by rfl) (fun w' hS => by
      obtain ⟨⟨p0, p1, p2, p3, p4, p5⟩, ⟨q0, q1, q2, q3, q4, q5⟩, s0, s1, s2, s3⟩ := hcl w' hS
      go_simp
      try simp) ?_
    try simp only [Act.put, List.setIfInBounds_toArray, List.set_cons_zero, List.set_cons_succ]
    iterate 1
      (refine mix_read (o := ⟨_, _, _, _, _, _⟩) (v := ?_) rfl (by rfl) (fun w' hS => ?_) ?_
       rotate_left
       obtain ⟨⟨p0, p1, p2, p3, p4, p5⟩, ⟨q0, q1, q2, q3, q4, q5⟩, s0, s1, s2, s3⟩ := hcl w' hS
       go_simp
       with_reducible rfl
       try simp only [Act.put, List.setIfInBounds_toArray, List.set_cons_zero, List.set_cons_succ])
    refine mix_done ?_
    clear hMay hSz hcl
    go_wp2_with fail
    have HB8 := Lib.hid g8
    clear g8
    go_loopg [17] L.length (fun gk iv wr => ∃ k : Nat, k + gk = L.length ∧ iv = .int .i64 (k : Int) ∧ Hid (Below w6.heap.size w6 wr))
    case atStart => exact ⟨0, by omega, rfl, HB8⟩
    case round =>
      obtain ⟨k, hk, rfl, HW⟩ := hrel
      clear HB8
      by_cases hlt : k < L.length
      · obtain ⟨gk1, hgk1⟩ : ∃ x, gk = x + 1 := ⟨gk - 1, by omega⟩
        obtain ⟨ob, hko⟩ : ∃ o, L[k]? = some o := ⟨_, List.getElem?_eq_getElem hlt⟩
        obtain ⟨gx, px, dx, rfl, _, hgx, x0, x1, hdx⟩ := HX6.out.cells hko
        obtain ⟨gy, py, hAy, hgy, hcy⟩ := HY6.out.lv.cells (by omega) (show (L.map obC)[k]? = some (obC ob) by rw [List.getElem?_map, hko]; rfl)
        subst hAy
        have y0 := hcy 0 _ rfl
        have y1 := hcy 1 _ rfl
        simp only [Nat.add_zero] at y0
        have HDX := Lib.hid hdx
        obtain ⟨Ad, cd', rfl, _, _⟩ := hdx.form
        obtain ⟨nb, hnb⟩ : ∃ n, n = ob.b.length := ⟨_, rfl⟩
        rw [← hnb] at x1 HDX
        clear hnb
        have a0 : (0 : Int) ≤ (k : Int) := by omega
        have a1 : (k : Int) < (L.length : Int) := by omega
        have hcl : ∀ u, Below wr.heap.size wr u → u.cell? ⟨gx, px + k * 2, none⟩ = some (.string (Bstr ob.nm)) ∧ u.cell? ⟨gx, px + k * 2 + 1, none⟩ = some (.slice Ad nb cd') ∧ u.cell? ⟨gy, py + k * 2, none⟩ = some (.string (Bstr ob.nm)) ∧ u.cell? ⟨gy, py + k * 2 + 1, none⟩ = some (.string (Bstr ob.b)) ∧ (convert 40 9 (.slice Ad nb cd')).run Tryz.prog u = .ok (.string (Bstr ob.b)) u := fun u hu => by
          have h1 : Below w6.heap.size w6 u := HW.out.trans (hu.mono HW.out.size)
          exact ⟨(h1.cell (p := ⟨gx, px + k * 2, none⟩) hgx).trans x0, (h1.cell (p := ⟨gx, px + k * 2 + 1, none⟩) hgx).trans x1, (h1.cell (p := ⟨gy, py + k * 2, none⟩) hgy).trans y0, (h1.cell (p := ⟨gy, py + k * 2 + 1, none⟩) hgy).trans y1, strOf (HDX.out.below h1).bs⟩
        clear hko x0 x1 hdx hcy y0 y1
        go_wp2_with fail
        refine wp_region_mix [(0, false), (1, false), (2, false), (3, false), (4, false), (5, false), (6, false), (7, false), (8, false), (9, false), (10, false), (11, false), (12, false), (13, false), (14, false), (15, false), (16, false), (17, false), (18, false), (19, false), (20, false), (21, false), (22, false), (23, false), (24, false)] (fun u => Below wr.heap.size wr u) (by kernel_rfl) (by kernel_rfl) (by kernel_rfl) rfl (Below.refl _ _).drew ?_
        iterate 10
          (refine mix_read (o := ⟨_, _, _, _, _, _⟩) (v := ?_) rfl (by rfl) (fun w' hS => ?_) ?_
           rotate_left
           obtain ⟨j0, j1, i0, i1, hst⟩ := hcl w' hS
           go_simp
           with_reducible rfl
           try simp only [Act.put, List.setIfInBounds_toArray, List.set_cons_zero, List.set_cons_succ])
        refine mix_read (o := ⟨_, _, _, _, _, _⟩) (v := .bool false) rfl (by rfl) (fun w' hS => by
          obtain ⟨j0, j1, i0, i1, hst⟩ := hcl w' hS
          go_simp
          try simp) ?_
        try simp only [Act.put, List.setIfInBounds_toArray, List.set_cons_zero, List.set_cons_succ]
        iterate 12
          (refine mix_read (o := ⟨_, _, _, _, _, _⟩) (v := ?_) rfl (by rfl) (fun w' hS => ?_) ?_
           rotate_left
           obtain ⟨j0, j1, i0, i1, hst⟩ := hcl w' hS
           go_simp
           with_reducible rfl
           try simp only [Act.put, List.setIfInBounds_toArray, List.set_cons_zero, List.set_cons_succ])
        refine mix_read (o := ⟨_, _, _, _, _, _⟩) (v := .bool false) rfl (by rfl) (fun w' hS => by
          obtain ⟨j0, j1, i0, i1, hst⟩ := hcl w' hS
          go_simp
          try simp) ?_
        try simp only [Act.put, List.setIfInBounds_toArray, List.set_cons_zero, List.set_cons_succ]
        iterate 1
          (refine mix_read (o := ⟨_, _, _, _, _, _⟩) (v := ?_) rfl (by rfl) (fun w' hS => ?_) ?_
           rotate_left
           obtain ⟨j0, j1, i0, i1, hst⟩ := hcl w' hS
           go_simp
           with_reducible rfl
           try simp only [Act.put, List.setIfInBounds_toArray, List.set_cons_zero, List.set_cons_succ])
        refine mix_done ?_
        have HW2 := Lib.hid (HW.out.drew)
        clear hcl
        go_wp2_with fail
        go_roundg gk1
        case measure => omega
        case rel => exact ⟨k + 1, by omega, by go_num, HW2⟩
      · have hkn : k = L.length := by omega
        subst hkn
        go_wp2_with fail
        go_ret
        exact ⟨rfl, HB6.out.trans (HW.out.mono HB6.out.size)⟩

theorem blockMakes_int (id lv : Int) (v : Value) (l : List Tn) (s : Sz) (w : World) (h : Ts w v l) (h0 : 0 ≤ id) (h1 : id ≤ 18446744073709551615) (hll : l.length ≤ 140737488355328) (hL : Ld w) :
    Calls Tryz.prog 3 #[.int .u64 id, .int .i64 lv, v, szV s] w fun e w' => e = .returned (.bool true) ∧ Below w.heap.size w w' := by
  obtain ⟨z, rfl⟩ := nat_of h0
  exact blockMakes_any z lv v l s w h (by omega) hll hL

end Go.Proofs.YtnghpcfdgjkokaaGreatDoor

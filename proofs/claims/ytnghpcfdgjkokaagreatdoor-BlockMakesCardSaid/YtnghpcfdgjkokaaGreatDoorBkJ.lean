/-
  CONTRACT of the document's Make; the head of layer 14's statements. Conditions: at most 200 traces, 10000000 spans; of the library's tables: Ld.
-/
import Derived.Test.YtnghpcfdgjkokaaGreatDoorBkI
namespace Go.Proofs.YtnghpcfdgjkokaaGreatDoor
open Go.RowKit
set_option maxRecDepth 100000

theorem DMake_any (id : Nat) (lv : Int) (v : Value) (l : List Tn) (s : Sz) (w : World) (h : Ts w v l) (hid : id < 18446744073709551616) (hll : l.length ≤ 200) (hfl : (flatT l).length ≤ 10000000) :
    Calls Tryz.prog 9 #[.int .u64 (id : Int), .int .i64 lv, v, szV s] w fun e w' => DMakeP w w' id lv l s e ∧ Below w.heap.size w w' := by
  rcases Classical.em (BkOk id lv l s) with hok | hno
  · exact DMake_good id lv v l s w h hid hll hfl hok
  · exact DMake_bad id lv v l s w h hno

def exS : Sz := ⟨64, 1, 64, 2⟩
def exN : Sn := ⟨5, 1, 0, 3, []⟩
def exL : List Tn := [⟨5, [exN]⟩]
theorem exN_ok : exN.ok := by constructor <;> decide
theorem exL_is : IsT exL := by
  refine ⟨fun k t hk => ?_, fun k t u h1 h2 => ?_⟩
  · match k, hk with
    | 0, hk =>
      injection hk with hk
      subst hk
      refine ⟨by decide, by decide, fun j s hj => ?_, fun j s t h1 h2 => ?_, fun i j s t hij h1 h2 => ?_⟩
      · match j, hj with
        | 0, hj =>
          injection hj with hj
          subst hj
          exact ⟨rfl, by decide⟩
        | j + 1, hj => simp at hj
      · simp at h2
      · match j, hij, h2 with
        | 0, hij, _ => omega
        | j + 1, _, h2 => simp at h2
    | k + 1, hk => simp [exL] at hk
  · simp [exL] at h2
theorem exOk : BkOk 1 0 exL exS := ⟨by decide, by decide, exL_is, by decide, by decide, by decide⟩
theorem exPages : (pagesOf exL exS).length = 1 := by
  have h1 := pages_len exL exS
  have h2 := pages_some exOk.ne exS
  have : exL.length = 1 := rfl
  omega
theorem exMe : (bkMe 1 0 exL exS).en = 3 ∧ (bkMe 1 0 exL exS).pg = 1 := ⟨by decide, by
  show (((pagesOf exL exS).length : Nat) : Int) = 1
  rw [exPages]
  rfl⟩

theorem plainS_any (w : World) : Calls Tryz.prog 27 #[] w fun e w' => e = .returned (.agg #[.int .i64 64, .int .i64 1, .int .i64 64, .int .i64 2]) ∧ Below w.heap.size w w' := by
  have hm := Blk.new w 25 #[.int .i64 64, .int .i64 1, .int .i64 64, .int .i64 2]
  go_enter Tryz.func27, Tryz.ntmps27
  go_wp2_with fail
  refine bodyPost_ret (v := .agg #[.int .i64 64, .int .i64 1, .int .i64 64, .int .i64 2]) (by have c := hm.cell; simp [results, go_sem, c]; try rfl) rfl ?_
  exact ⟨rfl, (Below.refl _ _).alloc (Nat.le_refl _) _⟩

theorem ex_ts (w : World) : Ts ((w.alloc (.cells #[.int .u64 5, .int .u64 1, .int .i64 0, .int .i64 3, .slice none 0 0] 72)).alloc (.cells #[.int .u64 5, .slice (some ⟨w.heap.size, 0, none⟩) 1 1] 75)) (.slice (some ⟨w.heap.size + 1, 0, none⟩) 1 1) exL := by
  have h1 := Lv.lit1 (w := w) [.int .u64 5, .int .u64 1, .int .i64 0, .int .i64 3, .slice none 0 0] 72
  have h2 := Lv.lit1 (w := w.alloc (.cells #[.int .u64 5, .int .u64 1, .int .i64 0, .int .i64 3, .slice none 0 0] 72)) [.int .u64 5, .slice (some ⟨w.heap.size, 0, none⟩) 1 1] 75
  have hb : Below (w.heap.size + 1) (w.alloc (.cells #[.int .u64 5, .int .u64 1, .int .i64 0, .int .i64 3, .slice none 0 0] 72)) ((w.alloc (.cells #[.int .u64 5, .int .u64 1, .int .i64 0, .int .i64 3, .slice none 0 0] 72)).alloc (.cells #[.int .u64 5, .slice (some ⟨w.heap.size, 0, none⟩) 1 1] 75)) := (Below.refl _ _).alloc (by simp) _
  have h3 := h1.below (w' := (w.alloc (.cells #[.int .u64 5, .int .u64 1, .int .i64 0, .int .i64 3, .slice none 0 0] 72)).alloc (.cells #[.int .u64 5, .slice (some ⟨w.heap.size, 0, none⟩) 1 1] 75)) (by simpa using hb)
  refine ⟨[[.int .u64 5, .slice (some ⟨w.heap.size, 0, none⟩) 1 1]], by simpa using h2, Two.nil.snoc (l := []) (m := []) ⟨by constructor <;> decide, _, rfl, ?_⟩⟩
  exact ⟨_, h3, Two.nil.snoc (l := []) (m := []) ⟨exN_ok, _, rfl, Bs.nil _⟩⟩

set_option maxHeartbeats 3200000 in
theorem up14_any (w : World) (hL : Ld w) : Calls Tryz.prog 6 #[] w fun e w' => e = .returned (.bool true) ∧ Below w.heap.size w w' := by
  have HLD := Lib.hid hL
  have hts := ex_ts w
  have eqc := eqCode
  have hb0 : Below w.heap.size w ((w.alloc (.cells #[.int .u64 5, .int .u64 1, .int .i64 0, .int .i64 3, .slice none 0 0] 72)).alloc (.cells #[.int .u64 5, .slice (some ⟨w.heap.size, 0, none⟩) 1 1] 75)) := ((Below.refl _ _).alloc (Nat.le_refl _) _).alloc (by simp) _
  clear hL
  go_enter Tryz.func6, Tryz.ntmps6
  go_wp2_with fail
  revert hts hb0
  generalize (w.alloc (.cells #[.int .u64 5, .int .u64 1, .int .i64 0, .int .i64 3, .slice none 0 0] 72)).alloc (.cells #[.int .u64 5, .slice (some ⟨w.heap.size, 0, none⟩) 1 1] 75) = w1
  intro hts hb0
  refine (plainS_any _).mono ?_
  rintro e w2 ⟨rfl, hb2⟩
  have HT2 := Lib.hid (hts.below hb2)
  have HB2 := Lib.hid (hb0.trans (hb2.mono hb0.size))
  clear hts hb0 hb2
  have hC := bmake_any 1 0 _ exL exS w2 HT2.out (by omega) (by decide) (HLD.out.below HB2.out)
  simp only [szV, exS] at hC
  go_wp2_with fail
  refine hC.mono ?_
  rintro e w3 ⟨hm, hb3⟩
  rcases hm with ⟨hn, _⟩ | ⟨_, x, rfl, hx⟩
  · exact absurd exOk hn
  have HB3 := Lib.hid (HB2.out.trans (hb3.mono HB2.out.size))
  obtain ⟨Ax, cx, hxv, _, _⟩ := hx.form
  rw [bkObs_length, show pagesOf exL ⟨64, 1, 64, 2⟩ = pagesOf exL exS from rfl, exPages] at hxv
  subst hxv
  obtain ⟨e1, e2⟩ := exMe
  simp only [exS] at e1 e2
  generalize bkMe 1 0 exL ⟨64, 1, 64, 2⟩ = m at e1 e2
  obtain ⟨mi, ml, ms, me, mp, mt⟩ := m
  simp only at e1 e2
  subst e1 e2
  simp only [meV]
  clear hC hx hb3 HT2 HB2
  go_wp2_with fail
  have HM4 : Hid (Blk (w3.alloc (.cells #[.int .u64 mi, .int .i64 ml, .int .i64 ms, .int .i64 3, .int .i64 1, .int .i64 mt] 30)) w3.heap.size 30 #[.int .u64 mi, .int .i64 ml, .int .i64 ms, .int .i64 3, .int .i64 1, .int .i64 mt]) := Lib.hid (Blk.new _ _ _)
  have HB4 : Hid (Below w.heap.size w (w3.alloc (.cells #[.int .u64 mi, .int .i64 ml, .int .i64 ms, .int .i64 3, .int .i64 1, .int .i64 mt] 30))) := Lib.hid (HB3.out.alloc HB3.out.size _)
  revert HM4 HB4
  generalize w3.alloc (.cells #[.int .u64 mi, .int .i64 ml, .int .i64 ms, .int .i64 3, .int .i64 1, .int .i64 mt] 30) = w4
  generalize w3.heap.size = g2
  intro HM4 HB4
  refine (plainS_any _).mono ?_
  rintro e w5 ⟨rfl, hb5⟩
  have HM5 := Lib.hid (HM4.out.below hb5 HM4.out.lt)
  have HB5 := Lib.hid (HB4.out.trans (hb5.mono HB4.out.size))
  clear hb5 HM4 HB4 HB3
  have hC := bmake_any 1 0 _ [] exS w5 (Ts.nil _) (by omega) (by decide) (HLD.out.below HB5.out)
  simp only [szV, exS] at hC
  go_wp2_with fail
  refine hC.mono ?_
  rintro e w6 ⟨hm, hb6⟩
  rcases hm with ⟨_, rfl⟩ | ⟨hn, _⟩
  rotate_left
  · exact absurd rfl hn.ne
  have HM6 := Lib.hid (HM5.out.below hb6 HM5.out.lt)
  have HB6 := Lib.hid (HB5.out.trans (hb6.mono HB5.out.size))
  clear hC hb6 HM5 HB5
  simp only [meV, Me.zero]
  have hb7 : Below w6.heap.size w6 (w6.alloc (.cells #[.int .u64 0, .int .i64 0, .int .i64 0, .int .i64 0, .int .i64 0, .int .i64 0] 30)) := (Below.refl _ _).alloc (Nat.le_refl _) _
  have HM7 := Lib.hid (HM6.out.below hb7 HM6.out.lt)
  have HB7 := Lib.hid (HB6.out.trans (hb7.mono HB6.out.size))
  have m3 := HM7.out.cell 3
  have m4 := HM7.out.cell 4
  simp at m3 m4
  have hMay := fun u => bmay_any exS u
  rw [show szB exS = true by decide] at hMay
  simp only [szV, exS] at hMay
  clear hb7 HM6 HB6
  go_wp2_with fail
  refine (plainS_any _).mono ?_
  rintro e w8 ⟨rfl, hb8⟩
  have HB8 := Lib.hid (HB7.out.trans (hb8.mono HB7.out.size))
  clear hb8
  go_wp2_with fail
  refine (hMay _).mono ?_
  rintro e w9 ⟨rfl, hb9⟩
  have HB9 := Lib.hid (HB8.out.trans (hb9.mono HB8.out.size))
  clear hb9
  go_wp2_with fail
  go_ret
  exact ⟨rfl, HB9.out⟩

end Go.Proofs.YtnghpcfdgjkokaaGreatDoor

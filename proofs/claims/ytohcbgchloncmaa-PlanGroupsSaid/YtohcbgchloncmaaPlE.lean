/-
  THE PROGRAM's placeOf, compare and rise (layer 19): what each tells. Conditions: what each says.
-/
import Derived.Test.YtohcbgchloncmaaPlC
namespace Go.Proofs.Ytohcbgchloncmaa
open Go.RowKit
set_option maxRecDepth 100000

/-- a meta's level and window, as a value -/
abbrev plV (a c : Int) : Value := .agg #[.int .i64 a, .int .i64 c]

theorem placeOf_any (m : Me) (long : Int) (w : World) (h : m.ok) (hl : 1 ≤ long) :
    Calls Try.prog 11 #[meV m, .int .i64 long] w fun e w' => e = .returned (plV m.lv (winI long m)) ∧ Below w.heap.size w w' := by
  have hw := winI_in h hl
  obtain ⟨wm, hwm⟩ : ∃ z, z = winI long m := ⟨_, rfl⟩
  rw [← hwm] at hw ⊢
  have q : m.en.tdiv long = wm := hwm.symm
  have w0 := hw.1
  have w1 := hw.2
  have hl0 : ¬ long = 0 := by omega
  have HB : Hid (Below w.heap.size w ((w.alloc (.cells #[.int .u64 m.id, .int .i64 m.lv, .int .i64 m.st, .int .i64 m.en, .int .i64 m.pg, .int .i64 m.tr] 35)).alloc (.cells #[.int .i64 0, .int .i64 0] 37))) := Lib.hid (((Below.refl _ _).alloc (Nat.le_refl _) _).alloc (by simp) _)
  have HM : Hid (Blk ((w.alloc (.cells #[.int .u64 m.id, .int .i64 m.lv, .int .i64 m.st, .int .i64 m.en, .int .i64 m.pg, .int .i64 m.tr] 35)).alloc (.cells #[.int .i64 0, .int .i64 0] 37)) w.heap.size 35 #[.int .u64 m.id, .int .i64 m.lv, .int .i64 m.st, .int .i64 m.en, .int .i64 m.pg, .int .i64 m.tr]) := Lib.hid ((Blk.new w _ _).alloc _)
  have HR : Hid (Blk ((w.alloc (.cells #[.int .u64 m.id, .int .i64 m.lv, .int .i64 m.st, .int .i64 m.en, .int .i64 m.pg, .int .i64 m.tr] 35)).alloc (.cells #[.int .i64 0, .int .i64 0] 37)) (w.heap.size + 1) 37 #[.int .i64 0, .int .i64 0]) := Lib.hid (by
    have := Blk.new (w.alloc (.cells #[.int .u64 m.id, .int .i64 m.lv, .int .i64 m.st, .int .i64 m.en, .int .i64 m.pg, .int .i64 m.tr] 35)) 37 #[.int .i64 0, .int .i64 0]
    simpa using this)
  clear hw hwm h
  simp only [meV]
  go_enter Try.func11, Try.ntmps11
  go_wp2_with fail
  revert HB HM HR
  generalize (w.alloc (.cells #[.int .u64 m.id, .int .i64 m.lv, .int .i64 m.st, .int .i64 m.en, .int .i64 m.pg, .int .i64 m.tr] 35)).alloc (.cells #[.int .i64 0, .int .i64 0] 37) = w2
  intro HB HM HR
  obtain ⟨S, hS⟩ : ∃ S : World → Prop, S = fun u => Blk u w.heap.size 35 #[.int .u64 m.id, .int .i64 m.lv, .int .i64 m.st, .int .i64 m.en, .int .i64 m.pg, .int .i64 m.tr] := ⟨_, rfl⟩
  have HC := Lib.hid fun (u : World) (hu : S u) => And.intro (by have := (hS ▸ hu : Blk u _ _ _).cell 1; simpa using this : u.cell? ⟨w.heap.size, 1, none⟩ = some (.int .i64 m.lv)) (by have := (hS ▸ hu : Blk u _ _ _).cell 3; simpa using this : u.cell? ⟨w.heap.size, 3, none⟩ = some (.int .i64 m.en))
  have hm2 := (HR.out.set_ 0 (.int .i64 m.lv)).set_ 1 (.int .i64 wm)
  have hg2 : w2.grownBy _ (some (w.heap.size + 1)) := grown_trans (grown_set w2 (w.heap.size + 1) 0 (.int .i64 m.lv)) (grown_set _ (w.heap.size + 1) 1 (.int .i64 wm))
  have HS2 : Hid (S (((w2.setCell ⟨w.heap.size + 1, 0, none⟩ (.int .i64 m.lv)).setCell ⟨w.heap.size + 1, 1, none⟩ (.int .i64 wm)).drew)) := Lib.hid (by rw [hS]; exact (HM.out.far (p := ⟨w.heap.size + 1, 0, none⟩) (by simp) _).far (p := ⟨w.heap.size + 1, 1, none⟩) (by simp) _)
  have HM2 := Lib.hid hm2
  have HG2 := Lib.hid hg2
  have hs0 : S w2.drew := by rw [hS]; exact HM.out
  clear hm2 hg2 hS
  refine wp_region_mix [(0, false), (1, false), (2, false), (3, false), (4, false), (5, false), (6, false), (7, true)] S (by kernel_rfl) (by kernel_rfl) (by kernel_rfl) rfl hs0 ?_
  repeat
    (refine mix_read (o := ⟨_, _, _, _, _, _⟩) (v := ?_) rfl (by rfl) (fun w' hS => ?_) ?_
     rotate_left
     obtain ⟨hC1, hC2⟩ := HC.out _ hS
     go_simp
     with_reducible rfl
     try simp only [Act.put, List.setIfInBounds_toArray, List.set_cons_zero, List.set_cons_succ])
  have r0 := HR.out.cell 0
  have r1 := HR.out.cell 1
  have f0 := HR.out.frozen 0
  have f1 := HR.out.frozen 1
  simp at r0 r1 f0 f1
  refine mix_step (o := ⟨_, _, _, _, _, _⟩) rfl (fun K hK => ?_)
  go_simp
  rw [IntWalk.i64_in wm ⟨w0, w1⟩]
  refine hK.out _ _ HS2.out ?_
  clear hK K
  refine mix_done ?_
  try simp only [Act.put, List.setIfInBounds_toArray, List.set_cons_zero, List.set_cons_succ]
  have c0 := HM2.out.cell 0
  have c1 := HM2.out.cell 1
  simp at c0 c1
  have hsz : (((w2.setCell ⟨w.heap.size + 1, 0, none⟩ (.int .i64 m.lv)).setCell ⟨w.heap.size + 1, 1, none⟩ (.int .i64 wm)).drew).heap.size = w2.heap.size := by simp
  have hbl : Below w.heap.size w (((w2.setCell ⟨w.heap.size + 1, 0, none⟩ (.int .i64 m.lv)).setCell ⟨w.heap.size + 1, 1, none⟩ (.int .i64 wm)).drew) := (HB.out.grown HG2.out HB.out.size (by intro z hz; injection hz with hz; omega)).drew
  go_wp2_with fail
  refine bodyPost_ret (v := plV m.lv wm) (by simp [results, go_sem, c0, c1]; try rfl) rfl ?_
  exact ⟨rfl, hbl⟩

/-- how two numbers stand -/
def pcI (a b : Int) : Int := if a < b then -1 else if b < a then 1 else 0

theorem pnan_int (a : Int) (w : World) : Calls Try.prog 16 #[.int .i64 a] w fun e w' => e = .returned (.bool false) ∧ w = w' := by
  go_enter Try.func16, Try.ntmps16
  go_wp2
  go_ret
  exact ⟨rfl, rfl⟩

theorem pnan_i64 (a : Int) (w : World) : Calls Try.prog 17 #[.int .i64 a] w fun e w' => e = .returned (.bool false) ∧ w = w' := by
  go_enter Try.func17, Try.ntmps17
  go_wp2
  go_ret
  exact ⟨rfl, rfl⟩

theorem pcmp_int (a b : Int) (w : World) : Calls Try.prog 14 #[.int .i64 a, .int .i64 b] w fun e w' => e = .returned (.int .i64 (pcI a b)) ∧ w = w' := by
  by_cases h1 : a < b
  · have e : pcI a b = -1 := by simp [pcI, h1]
    rw [e]
    clear e
    go_enter Try.func14, Try.ntmps14
    go_wp2_with (go_at_call 16; refine (pnan_int _ _).mono ?_; rintro e w' ⟨rfl, rfl⟩)
    go_ret
    exact ⟨rfl, rfl⟩
  · by_cases h2 : b < a
    · have e : pcI a b = 1 := by simp [pcI, h1, h2]
      rw [e]
      clear e
      go_enter Try.func14, Try.ntmps14
      go_wp2_with (go_at_call 16; refine (pnan_int _ _).mono ?_; rintro e w' ⟨rfl, rfl⟩)
      go_ret
      exact ⟨rfl, rfl⟩
    · have e : pcI a b = 0 := by simp [pcI, h1, h2]
      rw [e]
      clear e
      go_enter Try.func14, Try.ntmps14
      go_wp2_with (go_at_call 16; refine (pnan_int _ _).mono ?_; rintro e w' ⟨rfl, rfl⟩)
      go_ret
      exact ⟨rfl, rfl⟩

theorem pcmp_i64 (a b : Int) (w : World) : Calls Try.prog 15 #[.int .i64 a, .int .i64 b] w fun e w' => e = .returned (.int .i64 (pcI a b)) ∧ w = w' := by
  by_cases h1 : a < b
  · have e : pcI a b = -1 := by simp [pcI, h1]
    rw [e]
    clear e
    go_enter Try.func15, Try.ntmps15
    go_wp2_with (go_at_call 17; refine (pnan_i64 _ _).mono ?_; rintro e w' ⟨rfl, rfl⟩)
    go_ret
    exact ⟨rfl, rfl⟩
  · by_cases h2 : b < a
    · have e : pcI a b = 1 := by simp [pcI, h1, h2]
      rw [e]
      clear e
      go_enter Try.func15, Try.ntmps15
      go_wp2_with (go_at_call 17; refine (pnan_i64 _ _).mono ?_; rintro e w' ⟨rfl, rfl⟩)
      go_ret
      exact ⟨rfl, rfl⟩
    · have e : pcI a b = 0 := by simp [pcI, h1, h2]
      rw [e]
      clear e
      go_enter Try.func15, Try.ntmps15
      go_wp2_with (go_at_call 17; refine (pnan_i64 _ _).mono ?_; rintro e w' ⟨rfl, rfl⟩)
      go_ret
      exact ⟨rfl, rfl⟩

/-- the first of two that isn't 0 -/
def porI (a b : Int) : Int := if a ≠ 0 then a else b

theorem por_any (a b : Int) (g : Nat) (w : World) (h : Blk w g 3 #[.int .i64 a, .int .i64 b]) :
    Calls Try.prog 13 #[.slice (some ⟨g, 0, none⟩) 2 2] w fun e w' => e = .returned (.int .i64 (porI a b)) ∧ w = w' := by
  have h0 := h.cell 0
  have h1 := h.cell 1
  simp at h0 h1
  by_cases ha : a = 0
  · subst ha
    by_cases hb : b = 0
    · subst hb
      go_enter Try.func13, Try.ntmps13
      go_wp2
      refine wp_loop_rounds 3 ?_
      rw [rounds_succ]
      go_wp2
      rw [rounds_succ]
      go_wp2
      rw [rounds_succ]
      go_wp2
      go_ret
      exact ⟨rfl, rfl⟩
    · have hb' : (b == 0) = false := by simpa using hb
      have e : porI 0 b = b := by simp [porI]
      rw [e]
      clear e hb
      go_enter Try.func13, Try.ntmps13
      go_wp2
      refine wp_loop_rounds 2 ?_
      rw [rounds_succ]
      go_wp2
      rw [rounds_succ]
      go_wp2
      go_ret
      exact ⟨rfl, rfl⟩
  · have ha' : (a == 0) = false := by simpa using ha
    have e : porI a b = a := by simp [porI, ha]
    rw [e]
    clear e ha
    go_enter Try.func13, Try.ntmps13
    go_wp2
    refine wp_loop_rounds 1 ?_
    rw [rounds_succ]
    go_wp2
    go_ret
    exact ⟨rfl, rfl⟩

/-- how two places stand -/
def plcI (a c b d : Int) : Int := porI (pcI a b) (pcI c d)

theorem plcI_less {long : Int} {x y : Me} : decide (plcI x.lv (winI long x) y.lv (winI long y) < 0) = grpLess long x y := by
  rw [Bool.eq_iff_iff, decide_eq_true_iff, grpLess_yes]
  unfold plcI porI pcI
  split <;> split <;> (try split) <;> (try split) <;> omega

theorem pcompare_any (a c b d : Int) (w : World) :
    Calls Try.prog 12 #[plV a c, plV b d] w fun e w' => e = .returned (.int .i64 (plcI a c b d)) ∧ Below w.heap.size w w' := by
  have HB : Hid (Below w.heap.size w ((w.alloc (.cells #[.int .i64 a, .int .i64 c] 37)).alloc (.cells #[.int .i64 b, .int .i64 d] 37))) := Lib.hid (((Below.refl _ _).alloc (Nat.le_refl _) _).alloc (by simp) _)
  have HM : Hid (Blk ((w.alloc (.cells #[.int .i64 a, .int .i64 c] 37)).alloc (.cells #[.int .i64 b, .int .i64 d] 37)) w.heap.size 37 #[.int .i64 a, .int .i64 c]) := Lib.hid ((Blk.new w _ _).alloc _)
  have HR : Hid (Blk ((w.alloc (.cells #[.int .i64 a, .int .i64 c] 37)).alloc (.cells #[.int .i64 b, .int .i64 d] 37)) (w.heap.size + 1) 37 #[.int .i64 b, .int .i64 d]) := Lib.hid (by
    have := Blk.new (w.alloc (.cells #[.int .i64 a, .int .i64 c] 37)) 37 #[.int .i64 b, .int .i64 d]
    simpa using this)
  go_enter Try.func12, Try.ntmps12
  go_wp2_with fail
  revert HB HM HR
  generalize (w.alloc (.cells #[.int .i64 a, .int .i64 c] 37)).alloc (.cells #[.int .i64 b, .int .i64 d] 37) = w2
  intro HB HM HR
  have HC := Lib.hid fun (u : World) (hu : Below w2.heap.size w2 u) => And.intro ((hu.cell HM.out.lt).trans (by simpa using HM.out.cell 0) : u.cell? ⟨w.heap.size, 0, none⟩ = some (.int .i64 a)) (And.intro ((hu.cell HM.out.lt).trans (by simpa using HM.out.cell 1) : u.cell? ⟨w.heap.size, 1, none⟩ = some (.int .i64 c)) (And.intro ((hu.cell HR.out.lt).trans (by simpa using HR.out.cell 0) : u.cell? ⟨w.heap.size + 1, 0, none⟩ = some (.int .i64 b)) ((hu.cell HR.out.lt).trans (by simpa using HR.out.cell 1) : u.cell? ⟨w.heap.size + 1, 1, none⟩ = some (.int .i64 d))))
  refine wp_region_mix [(0, false), (1, false), (2, false), (3, false), (5, false), (6, false), (7, false), (8, false), (4, true), (9, true), (10, true), (11, true), (12, false)] (fun u => Below w2.heap.size w2 u) (by kernel_rfl) (by kernel_rfl) (by kernel_rfl) rfl (Below.refl _ _).drew ?_
  repeat
    (refine mix_read (o := ⟨_, _, _, _, _, _⟩) (v := ?_) rfl (by rfl) (fun w' hS => ?_) ?_
     rotate_left
     obtain ⟨hC0, hC1, hC2, hC3⟩ := HC.out _ hS
     go_simp
     with_reducible rfl
     try simp only [Act.put, List.setIfInBounds_toArray, List.set_cons_zero, List.set_cons_succ])
  refine mix_step (o := ⟨_, _, _, _, _, _⟩) rfl (fun K hK => ?_)
  go_simp
  refine (pcmp_int a b _).mono ?_
  rintro e _ ⟨rfl, rfl⟩
  refine hK.out _ _ (Below.refl _ _).drew ?_
  clear hK K
  try simp only [Act.put, List.setIfInBounds_toArray, List.set_cons_zero, List.set_cons_succ]
  refine mix_step (o := ⟨_, _, _, _, _, _⟩) rfl (fun K hK => ?_)
  go_simp
  refine (pcmp_i64 c d _).mono ?_
  rintro e _ ⟨rfl, rfl⟩
  refine hK.out _ _ (Below.refl _ _).drew ?_
  clear hK K
  try simp only [Act.put, List.setIfInBounds_toArray, List.set_cons_zero, List.set_cons_succ]
  refine mix_step (o := ⟨_, _, _, _, _, _⟩) rfl (fun K hK => ?_)
  go_simp
  have ha0 : Below w2.heap.size w2 (w2.drew.alloc (.cells #[.int .i64 (pcI a b), .int .i64 (pcI c d)] 3)) := (Below.refl w2.heap.size w2).drew.alloc (Nat.le_refl _) _
  refine hK.out _ _ ha0 ?_
  clear hK K
  try simp only [Act.put, List.setIfInBounds_toArray, List.set_cons_zero, List.set_cons_succ]
  refine mix_step (o := ⟨_, _, _, _, _, _⟩) rfl (fun K hK => ?_)
  go_simp
  have hB2 : Blk (w2.alloc (.cells #[.int .i64 (pcI a b), .int .i64 (pcI c d)] 3)).drew w2.heap.size 3 #[.int .i64 (pcI a b), .int .i64 (pcI c d)] := Blk.new w2 _ _
  refine (por_any (pcI a b) (pcI c d) w2.heap.size _ hB2).mono ?_
  rintro e _ ⟨rfl, rfl⟩
  refine hK.out _ _ ha0 ?_
  clear hK K
  try simp only [Act.put, List.setIfInBounds_toArray, List.set_cons_zero, List.set_cons_succ]
  refine mix_read (o := ⟨_, _, _, _, _, _⟩) (v := ?_) rfl (by rfl) (fun w' hS => ?_) ?_
  rotate_left
  go_simp
  with_reducible rfl
  try simp only [Act.put, List.setIfInBounds_toArray, List.set_cons_zero, List.set_cons_succ]
  refine mix_done ?_
  have HL := Lib.hid (HB.out.trans (ha0.mono HB.out.size))
  clear ha0
  go_wp2_with fail
  go_ret
  exact ⟨rfl, HL.out⟩

set_option maxHeartbeats 1600000 in
theorem prise_any (v : Value) (l : List Me) (w : World) (h : Mes w v l) :
    Calls Try.prog 9 #[v] w fun e w' => e = .returned (.bool (riseMB l)) ∧ Below w.heap.size w w' := by
  have SL := Lib.hid h
  obtain ⟨A, c, rfl, hc1, hc2⟩ := h.form
  clear h
  go_enter Try.func9, Try.ntmps9
  go_wp2_with fail
  go_loopg [6] l.length (fun gk iv wr => ∃ k : Nat, k + gk = l.length ∧ iv = .int .i64 (k : Int) ∧ Hid (Below w.heap.size w wr ∧ ∀ (j : Nat) a b, l[j]? = some a → l[j + 1]? = some b → j + 1 < k → a.id < b.id))
  case atStart => exact ⟨0, by omega, rfl, Lib.hid ⟨Below.refl _ _, fun j a b _ _ h => by omega⟩⟩
  case round =>
    obtain ⟨k, hk, rfl, HW⟩ := hrel
    by_cases hlt : k < l.length
    rotate_left
    · have hkl : k = l.length := by omega
      subst hkl
      have HY : Hid (riseMB l = true) := Lib.hid ((riseMB_iff l).2 fun j a b ha hb => HW.out.2 j a b ha hb (by
        have := (List.getElem?_eq_some_iff.1 hb).1
        omega))
      go_wp2_with fail
      go_ret
      rw [HY.out]
      exact ⟨rfl, HW.out.1⟩
    obtain ⟨gk1, hgk1⟩ : ∃ x, gk = x + 1 := ⟨gk - 1, by omega⟩
    have b2 : (0 : Int) ≤ (k : Int) := by omega
    have b3 : (k : Int) < (l.length : Int) := by omega
    by_cases hk0 : k = 0
    · subst hk0
      go_wp2_with fail
      go_quiet (fail)
      go_wp2_with fail
      go_roundg gk1
      case measure => omega
      case rel => exact ⟨0 + 1, by omega, by go_num, Lib.hid ⟨below_drewN HW.out.1 _, fun j x y hx hy hj => by omega⟩⟩
    obtain ⟨i, hi⟩ : ∃ i, k = i + 1 := ⟨k - 1, by omega⟩
    subst hi
    obtain ⟨a, ha⟩ : ∃ t, l[i]? = some t := ⟨_, List.getElem?_eq_getElem (by omega)⟩
    obtain ⟨b, hb⟩ : ∃ t, l[i + 1]? = some t := ⟨_, List.getElem?_eq_getElem hlt⟩
    obtain ⟨g, o, rfl, hg, c0, _⟩ := (SL.out.below HW.out.1).cells ha
    obtain ⟨g', o', hA', hg', x0, _⟩ := (SL.out.below HW.out.1).cells hb
    injection hA' with hA'
    injection hA' with e1 e2
    subst e1 e2
    have e3 : ((i : Int) + 1) - 1 = (i : Int) := by omega
    have b0 : (0 : Int) ≤ (i : Int) := by omega
    have b1 : (i : Int) < (l.length : Int) := by omega
    have ec : ((i + 1 : Nat) : Int) = (i : Int) + 1 := by omega
    have hp : decide ((0 : Int) < (i : Int) + 1) = true := decide_eq_true (by omega)
    have HA := Lib.hid ha
    have HBB := Lib.hid hb
    rw [ec] at b2 b3 ⊢
    clear hg hg' ec
    by_cases hab : a.id < b.id
    · have hd : decide (b.id ≤ a.id) = false := decide_eq_false (by omega)
      have HAB := Lib.hid hab
      clear hab ha hb
      go_wp2_with fail
      go_quiet (fail)
      go_wp2_with fail
      go_roundg gk1
      case measure => omega
      case rel => exact ⟨i + 1 + 1, by omega, by go_num, Lib.hid ⟨below_drewN HW.out.1 _, fun j x y hx hy hj => by
        by_cases hjk : j < i
        · exact HW.out.2 j x y hx hy (by omega)
        · have : j = i := by omega
          subst this
          rw [HA.out] at hx
          rw [HBB.out] at hy
          rw [← Option.some.inj hx, ← Option.some.inj hy]
          exact HAB.out⟩⟩
    · have hd : decide (b.id ≤ a.id) = true := decide_eq_true (by omega)
      have HN : Hid (riseMB l = false) := Lib.hid (riseM_no ha hb hab)
      clear hab ha hb HA HBB
      go_wp2_with fail
      go_quiet (fail)
      go_wp2_with fail
      go_ret
      rw [HN.out]
      exact ⟨rfl, below_drewN HW.out.1 _⟩

end Go.Proofs.Ytohcbgchloncmaa

/-
  THE PROGRAM's firstPlace (layer 19): what it tells. Conditions: what each says.
-/
import Derived.Test.YtohcbgchloncmaaPlF
namespace Go.Proofs.Ytohcbgchloncmaa
open Go.RowKit
set_option maxRecDepth 100000

/-- how many metas of a level below 10 lie there -/
def cntF (l : List Me) (long a c : Int) : Int := ((l.filter fun m => decide (m.lv < 10) && (decide (m.lv = a) && decide (winI long m = c))).length : Int)

theorem cntF_nil (long a c : Int) : cntF [] long a c = 0 := rfl

theorem cntF_hi (l : List Me) (long a c : Int) : 0 ≤ cntF l long a c ∧ cntF l long a c ≤ l.length := by
  unfold cntF
  have := List.length_filter_le (fun m : Me => decide (m.lv < 10) && (decide (m.lv = a) && decide (winI long m = c))) l
  omega

theorem cntF_skip {l : List Me} {k : Nat} {x : Me} (hx : l[k]? = some x) (h : ¬ x.lv < 10) (long a c : Int) : cntF (l.take (k + 1)) long a c = cntF (l.take k) long a c := by
  unfold cntF
  rw [filter_next hx, decide_eq_false h]
  simp

theorem cntF_next {l : List Me} {k : Nat} {x : Me} (hx : l[k]? = some x) (h : x.lv < 10) (long a c : Int) : cntF (l.take (k + 1)) long a c = if a = x.lv ∧ c = winI long x then cntF (l.take k) long x.lv (winI long x) + 1 else cntF (l.take k) long a c := by
  unfold cntF
  rw [filter_next hx, decide_eq_true h]
  by_cases e : a = x.lv ∧ c = winI long x
  · rw [if_pos e, e.1, e.2]
    simp
  · rw [if_neg e]
    have : (decide (x.lv = a) && decide (winI long x = c)) = false := by
      cases hd : (decide (x.lv = a) && decide (winI long x = c)) with
      | false => rfl
      | true =>
        simp only [Bool.and_eq_true, decide_eq_true_eq] at hd
        exact absurd ⟨hd.1.symm, hd.2.symm⟩ e
    rw [this]
    simp

theorem cntF_elig (l : List Me) (long : Int) (x : Me) : decide (2 ≤ cntF l long x.lv (winI long x)) = eligB l long x := by
  unfold cntF eligB
  by_cases h : x.lv < 10
  · have e : (fun m : Me => decide (m.lv < 10) && (decide (m.lv = x.lv) && decide (winI long m = winI long x))) = mateB long x := by
      funext m
      unfold mateB
      by_cases h1 : m.lv = x.lv
      · rw [h1, decide_eq_true h]
        simp
      · rw [decide_eq_false h1]
        simp
    rw [e, decide_eq_true h, Bool.and_true]
    rw [decide_eq_decide]
    omega
  · have e : l.filter (fun m : Me => decide (m.lv < 10) && (decide (m.lv = x.lv) && decide (winI long m = winI long x))) = [] := by
      rw [List.filter_eq_nil_iff]
      intro m _ hm
      simp only [Bool.and_eq_true, decide_eq_true_eq] at hm
      omega
    rw [e, decide_eq_false h, Bool.and_false]
    rfl

/-- first and ok, behind some metas -/
def FirstP (b : Option Me) (long a c : Int) (o : Bool) : Prop := (b = none ∧ o = false) ∨ ∃ y, b = some y ∧ o = true ∧ a = y.lv ∧ c = winI long y

theorem firstP_skip {l : List Me} {long a c : Int} {o : Bool} {i : Nat} {x : Me} (h : FirstP ((l.take i).foldl (bestStep l long) none) long a c o) (hx : l[i]? = some x) (he : eligB l long x = false) : FirstP ((l.take (i + 1)).foldl (bestStep l long) none) long a c o := by
  rw [best_next hx]
  generalize (l.take i).foldl (bestStep l long) none = b at h ⊢
  simpa [bestStep, he] using h

theorem firstP_take {l : List Me} {long : Int} {i : Nat} {x : Me} (hx : l[i]? = some x) (he : eligB l long x = true) (h : (l.take i).foldl (bestStep l long) none = none ∨ ∃ y, (l.take i).foldl (bestStep l long) none = some y ∧ grpLess long x y = true) : FirstP ((l.take (i + 1)).foldl (bestStep l long) none) long x.lv (winI long x) true := by
  refine .inr ⟨x, ?_, rfl, rfl, rfl⟩
  rw [best_next hx]
  rcases h with h | ⟨y, h, hl⟩
  · rw [h]
    simp [bestStep, he]
  · rw [h]
    simp [bestStep, he, hl]

theorem firstP_stay {l : List Me} {long a c : Int} {i : Nat} {x y : Me} (hx : l[i]? = some x) (he : eligB l long x = true) (h : (l.take i).foldl (bestStep l long) none = some y) (ha : a = y.lv) (hc : c = winI long y) (hl : grpLess long x y = false) : FirstP ((l.take (i + 1)).foldl (bestStep l long) none) long a c true := by
  refine .inr ⟨y, ?_, rfl, ha, hc⟩
  rw [best_next hx, h]
  simp [bestStep, he, hl]

structure FpI (w wr : World) (g9 n : Nat) (l : List Me) (long a c : Int) : Prop where
  bel : Below w.heap.size w wr
  res : Blk wr w.heap.size 37 #[.int .i64 0, .int .i64 0]
  cnt : CntM wr (w.heap.size + 1) n (cntF l long)
  fst : Blk wr g9 37 #[.int .i64 a, .int .i64 c]
  g9 : w.heap.size + 1 < g9

theorem FpI.later {w wr u : World} {g9 n : Nat} {l : List Me} {long a c : Int} (h : FpI w wr g9 n l long a c) (hb : Below wr.heap.size wr u) : FpI w u g9 n l long a c :=
  ⟨h.bel.trans (hb.mono h.bel.size), h.res.below hb h.res.lt, h.cnt.below hb, h.fst.below hb h.fst.lt, h.g9⟩

theorem FpI.put {w wr : World} {g9 n : Nat} {l : List Me} {long a c : Int} (h : FpI w wr g9 n l long a c) (a' c' : Int) : FpI w ((wr.setCell ⟨g9, 0, none⟩ (.int .i64 a')).setCell ⟨g9, 1, none⟩ (.int .i64 c')) g9 n l long a' c' := by
  have hg := h.g9
  have hm2 := (h.fst.set_ 0 (.int .i64 a')).set_ 1 (.int .i64 c')
  have hg2 : wr.grownBy _ (some g9) := grown_trans (grown_set wr g9 0 (.int .i64 a')) (grown_set _ g9 1 (.int .i64 c'))
  exact ⟨h.bel.grown hg2 h.bel.size (by intro z hz; have := Option.some.inj hz; omega), h.res.grown hg2 (by intro e; have := Option.some.inj e; omega), h.cnt.grown hg2 (by omega), by simpa using hm2, h.g9⟩

set_option maxHeartbeats 12800000 in
theorem firstPlace_any (v : Value) (l : List Me) (long : Int) (w : World) (h : Mes w v l) (hl1 : 1 ≤ long) (hlen : l.length ≤ 1000000) :
    Calls Try.prog 10 #[v, .int .i64 long] w fun e w' => ∃ a c o, e = .returned (.tuple #[plV a c, .bool o]) ∧ FirstP (bestM l long) long a c o ∧ Below w.heap.size w w' := by
  have SL := Lib.hid h
  have HOK := Lib.hid h.ok
  obtain ⟨A, c, rfl, hc1, hc2⟩ := h.form
  have hmm := @run_makeMap Try.prog
  have hcm0 := CntM.made (w.alloc (.cells #[.int .i64 0, .int .i64 0] 37))
  have hsz0 : (w.alloc (.cells #[.int .i64 0, .int .i64 0] 37)).heap.size = w.heap.size + 1 := by simp
  rw [hsz0] at hcm0
  have HCM0 := Lib.hid hcm0
  have HR0 : Hid (Blk ((w.alloc (.cells #[.int .i64 0, .int .i64 0] 37)).alloc (.map #[] 0)) w.heap.size 37 #[.int .i64 0, .int .i64 0]) := Lib.hid ((Blk.new w _ _).alloc _)
  have HB0 : Hid (Below w.heap.size w ((w.alloc (.cells #[.int .i64 0, .int .i64 0] 37)).alloc (.map #[] 0))) := Lib.hid (((Below.refl _ _).alloc (Nat.le_refl _) _).alloc (by simp) _)
  clear h hcm0 hsz0
  go_enter Try.func10, Try.ntmps10
  go_wp2_with fail
  go_loopg [17] l.length (fun gk iv wr => ∃ k : Nat, k + gk = l.length ∧ iv = .int .i64 (k : Int) ∧ Hid (Below w.heap.size w wr ∧ Blk wr w.heap.size 37 #[.int .i64 0, .int .i64 0] ∧ CntM wr (w.heap.size + 1) k (cntF (l.take k) long)))
  case atStart => exact ⟨0, by omega, rfl, Lib.hid ⟨HB0.out, HR0.out, HCM0.out.same fun a c _ _ => rfl⟩⟩
  case round =>
    obtain ⟨k, hk, rfl, HW⟩ := hrel
    clear HCM0 HR0 HB0
    revert HW
    generalize wr = w1
    intro HW
    by_cases hlt : k < l.length
    rotate_left
    · have hkl : k = l.length := by omega
      subst hkl
      have hc0 := HW.out.2.2
      rw [List.take_length] at hc0
      have HC0 := Lib.hid hc0
      have HB0 := Lib.hid HW.out.1
      have HR0 := Lib.hid HW.out.2.1
      have HG0 : Hid (w.heap.size + 1 < w1.heap.size) := Lib.hid HC0.out.lt
      have d0 : decide ((l.length : Int) < (l.length : Int)) = false := decide_eq_false (by omega)
      clear hc0 HW hlt
      go_wp2_with fail
      go_loopg [10, 36] l.length (fun gj ov iv wr => ∃ (i : Nat) (a c : Int) (o : Bool), i + gj = l.length ∧ ov = .bool o ∧ iv = .int .i64 (i : Int) ∧ Hid (FpI w wr w1.heap.size l.length l long a c ∧ FirstP ((l.take i).foldl (bestStep l long) none) long a c o))
      case atStart =>
        have hb : Below w1.heap.size w1 (w1.alloc (.cells #[.int .i64 0, .int .i64 0] 37)) := (Below.refl _ _).alloc (Nat.le_refl _) _
        exact ⟨0, 0, 0, false, by omega, rfl, rfl, Lib.hid ⟨⟨HB0.out.trans (hb.mono HB0.out.size), HR0.out.below hb HR0.out.lt, HC0.out.below hb, Blk.new w1 _ _, HG0.out⟩, .inl ⟨rfl, rfl⟩⟩⟩
      case round =>
        obtain ⟨i, a, b, o, hi, rfl, rfl, HF⟩ := hrel
        clear HC0 HB0 HR0 d0
        revert HF
        generalize wr = w2
        intro HF
        have q0 := HF.out.1.fst.cell 0
        have q1 := HF.out.1.fst.cell 1
        simp at q0 q1
        by_cases hlt : i < l.length
        rotate_left
        · have hil : i = l.length := by omega
          subst hil
          have r0 := HF.out.1.res.cell 0
          have r1 := HF.out.1.res.cell 1
          have f0 := HF.out.1.res.frozen 0
          have f1 := HF.out.1.res.frozen 1
          simp at r0 r1 f0 f1
          have d0 : decide ((l.length : Int) < (l.length : Int)) = false := decide_eq_false (by omega)
          go_wp2_with fail
          have hm2 := (HF.out.1.res.set_ 0 (.int .i64 a)).set_ 1 (.int .i64 b)
          have hg2 : w2.grownBy _ (some w.heap.size) := grown_trans (grown_set w2 w.heap.size 0 (.int .i64 a)) (grown_set _ w.heap.size 1 (.int .i64 b))
          have hbl := HF.out.1.bel.grown hg2 HF.out.1.bel.size (by intro z hz; have := Option.some.inj hz; omega)
          have c0 := hm2.cell 0
          have c1 := hm2.cell 1
          simp at c0 c1
          have hfp := HF.out.2
          rw [List.take_length] at hfp
          refine bodyPost_ret (v := .tuple #[plV a b, .bool o]) (by simp [results, go_sem, c0, c1]; try rfl) rfl ?_
          exact ⟨a, b, o, rfl, hfp, hbl⟩
        obtain ⟨gk1, hgk1⟩ : ∃ x, gk = x + 1 := ⟨gk - 1, by omega⟩
        obtain ⟨x, hx⟩ : ∃ t, l[i]? = some t := ⟨_, List.getElem?_eq_getElem hlt⟩
        have HX := Lib.hid hx
        have HOX := Lib.hid (HOK.out x (List.mem_of_getElem? hx))
        obtain ⟨g, z, rfl, hg, c0, c1, c2, c3, c4, c5, _⟩ := (SL.out.below HF.out.1.bel).cells hx
        have i0 : (0 : Int) ≤ (i : Int) := by omega
        have i1 : (i : Int) < (l.length : Int) := by omega
        have HIW := Lib.hid (winI_in HOX.out hl1)
        obtain ⟨wx, hwx⟩ : ∃ z, z = winI long x := ⟨_, rfl⟩
        have HWX := Lib.hid hwx
        have hb3 : Below w2.heap.size w2 (w2.alloc (.cells #[.int .u64 x.id, .int .i64 x.lv, .int .i64 x.st, .int .i64 x.en, .int .i64 x.pg, .int .i64 x.tr] 35)) := (Below.refl _ _).alloc (Nat.le_refl _) _
        have HF3 := Lib.hid (HF.out.1.later hb3)
        have HFP := Lib.hid HF.out.2
        clear hx hg hwx hb3 q0 q1 HF
        go_wp2_with fail
        refine (placeOf_any x long _ HOX.out hl1).mono ?_
        rintro e w4 ⟨rfl, hb4⟩
        rw [← HWX.out]
        have HF4 := Lib.hid (HF3.out.later hb4)
        have hb5 : Below w4.heap.size w4 (w4.alloc (.cells #[.int .i64 x.lv, .int .i64 wx] 37)) := (Below.refl _ _).alloc (Nat.le_refl _) _
        have HF5 := Lib.hid (HF4.out.later hb5)
        have HC5 := Lib.hid HF5.out.cnt
        have HIL := Lib.hid (⟨HOX.out.lv0, HOX.out.lv1⟩ : In64 x.lv)
        have HIX : Hid (In64 wx) := Lib.hid (HWX.out ▸ HIW.out)
        obtain ⟨cv, hcv⟩ : ∃ z, z = cntF l long x.lv wx := ⟨_, rfl⟩
        have hel : decide (2 ≤ cv) = eligB l long x := by rw [hcv, HWX.out, cntF_elig]
        have HCV := Lib.hid hcv.symm
        have HP5 := Lib.hid (Blk.new w4 37 #[.int .i64 x.lv, .int .i64 wx])
        have q0 := HF5.out.fst.cell 0
        have q1 := HF5.out.fst.cell 1
        have f0 := HF5.out.fst.frozen 0
        have f1 := HF5.out.fst.frozen 1
        simp at q0 q1 f0 f1
        clear c0 c1 c2 c3 c4 c5 hb4 hb5 hcv
        have HEL := Lib.hid hel
        generalize eligB l long x = el at hel
        cases el with
        | false =>
          go_wp2_with (at_lookup; refine wpList_look_cnt rfl _ _ rfl rfl HC5.out rfl HIL.out HIX.out HCV.out ?_)
          go_roundg gk1
          case measure => omega
          case rel => exact ⟨i + 1, a, b, o, by omega, rfl, by go_num, Lib.hid ⟨HF5.out, firstP_skip HFP.out HX.out (by rw [← HEL.out]; exact hel)⟩⟩
        | true =>
          have HE : Hid (eligB l long x = true) := Lib.hid (by rw [← HEL.out]; exact hel)
          have hg5 := HF5.out.fst.lt
          have HXW := Lib.hid fun (u : World) (hu : Blk u w4.heap.size 37 #[.int .i64 x.lv, .int .i64 wx]) => (And.intro (by have := hu.cell 0; simpa using this) (by have := hu.cell 1; simpa using this) : u.cell? ⟨w4.heap.size, 0, none⟩ = some (.int .i64 x.lv) ∧ u.cell? ⟨w4.heap.size, 1, none⟩ = some (.int .i64 wx))
          rcases HFP.out with ⟨hn, rfl⟩ | ⟨y, hn, rfl, hay, hby⟩
          · have HN := Lib.hid hn
            clear hn HFP
            go_wp2_with (at_lookup; refine wpList_look_cnt rfl _ _ rfl rfl HC5.out rfl HIL.out HIX.out HCV.out ?_)
            go_roundg gk1
            case measure => omega
            case rel => exact ⟨i + 1, x.lv, wx, true, by omega, rfl, by go_num, Lib.hid ⟨HF5.out.put _ _, by rw [HWX.out]; exact firstP_take HX.out HE.out (.inl HN.out)⟩⟩
          · have HN := Lib.hid hn
            have hls : decide (plcI x.lv wx a b < 0) = grpLess long x y := by rw [hay, hby, HWX.out, plcI_less]
            have HAY := Lib.hid hay
            have HBY := Lib.hid hby
            clear hn HFP hay hby
            obtain ⟨ls, hle⟩ : ∃ z, z = grpLess long x y := ⟨_, rfl⟩
            rw [← hle] at hls
            have HLE := Lib.hid hle
            clear hle
            go_wp2_with (at_lookup; refine wpList_look_cnt rfl _ _ rfl rfl HC5.out rfl HIL.out HIX.out HCV.out ?_)
            refine (pcompare_any _ _ _ _ _).mono ?_
            rintro e w6 ⟨rfl, hb6⟩
            generalize plcI x.lv wx a b = pc at hls
            have HF6 := Lib.hid (HF5.out.later hb6)
            have HP6 := Lib.hid (HP5.out.below hb6 HP5.out.lt)
            have q0 := HF6.out.fst.cell 0
            have q1 := HF6.out.fst.cell 1
            have f0 := HF6.out.fst.frozen 0
            have f1 := HF6.out.fst.frozen 1
            have p0 := HP6.out.cell 0
            have p1 := HP6.out.cell 1
            simp at q0 q1 f0 f1 p0 p1
            clear hb6
            cases ls with
            | false =>
              go_wp2_with fail
              go_roundg gk1
              case measure => omega
              case rel => exact ⟨i + 1, a, b, true, by omega, rfl, by go_num, Lib.hid ⟨HF6.out, firstP_stay HX.out HE.out HN.out HAY.out HBY.out HLE.out.symm⟩⟩
            | true =>
              go_wp2_with fail
              go_roundg gk1
              case measure => omega
              case rel => exact ⟨i + 1, x.lv, wx, true, by omega, rfl, by go_num, Lib.hid ⟨HF6.out.put _ _, by rw [HWX.out]; exact firstP_take HX.out HE.out (.inr ⟨y, HN.out, HLE.out.symm⟩)⟩⟩
    obtain ⟨gk1, hgk1⟩ : ∃ x, gk = x + 1 := ⟨gk - 1, by omega⟩
    obtain ⟨x, hx⟩ : ∃ t, l[k]? = some t := ⟨_, List.getElem?_eq_getElem hlt⟩
    have HX := Lib.hid hx
    have HOX := Lib.hid (HOK.out x (List.mem_of_getElem? hx))
    obtain ⟨g, o, rfl, hg, c0, c1, c2, c3, c4, c5, _⟩ := (SL.out.below HW.out.1).cells hx
    have i0 : (0 : Int) ≤ (k : Int) := by omega
    have i1 : (k : Int) < (l.length : Int) := by omega
    have hb2 : Below w1.heap.size w1 (w1.alloc (.cells #[.int .u64 x.id, .int .i64 x.lv, .int .i64 x.st, .int .i64 x.en, .int .i64 x.pg, .int .i64 x.tr] 35)) := (Below.refl _ _).alloc (Nat.le_refl _) _
    have HB2 := Lib.hid hb2
    have HBM := Lib.hid (Blk.new w1 35 #[.int .u64 x.id, .int .i64 x.lv, .int .i64 x.st, .int .i64 x.en, .int .i64 x.pg, .int .i64 x.tr])
    have b1 := HBM.out.cell 1
    simp at b1
    clear hx hg hb2
    by_cases hlv : x.lv < 10
    rotate_left
    · have e1 : decide (x.lv < 10) = false := decide_eq_false hlv
      have HLV := Lib.hid hlv
      clear hlv
      go_wp2_with fail
      go_roundg gk1
      case measure => omega
      case rel => exact ⟨k + 1, by omega, by go_num, Lib.hid ⟨HW.out.1.trans (HB2.out.mono HW.out.1.size), HW.out.2.1.below HB2.out HW.out.2.1.lt, ((HW.out.2.2.below HB2.out).mono (by omega)).same fun a c _ _ => (cntF_skip HX.out (by have := HLV.out; omega) long a c).symm⟩⟩
    have e1 : decide (x.lv < 10) = true := decide_eq_true hlv
    have HLV := Lib.hid hlv
    have HIW := Lib.hid (winI_in HOX.out hl1)
    obtain ⟨wx, hwx⟩ : ∃ z, z = winI long x := ⟨_, rfl⟩
    have HWX := Lib.hid hwx
    obtain ⟨cv, hcv⟩ : ∃ z, z = cntF (l.take k) long x.lv wx := ⟨_, rfl⟩
    have hcr := cntF_hi (l.take k) long x.lv wx
    have htl : (l.take k).length ≤ l.length := by rw [List.length_take]; omega
    rw [← hcv] at hcr
    have HCR : Hid (In64 (cv + 1)) := Lib.hid ⟨by omega, by omega⟩
    have HCV := Lib.hid hcv
    clear hlv hwx hcv hcr htl
    go_wp2_with fail
    have HM1 := Lib.hid (HW.out.2.2.below HB2.out)
    have HR1 := Lib.hid (HW.out.2.1.below HB2.out HW.out.2.1.lt)
    have HL1 := Lib.hid (HW.out.1.trans (HB2.out.mono HW.out.1.size))
    have HG1 : Hid (w.heap.size + 1 < w1.heap.size) := Lib.hid HW.out.2.2.lt
    clear c0 c1 c2 c3 c4 c5 b1 HB2
    have hg8 : w1.heap.size < (w1.alloc (.cells #[.int .u64 x.id, .int .i64 x.lv, .int .i64 x.st, .int .i64 x.en, .int .i64 x.pg, .int .i64 x.tr] 35)).heap.size := by simp
    obtain ⟨g8, hg8e⟩ : ∃ z, z = w1.heap.size := ⟨_, rfl⟩
    rw [← hg8e] at HBM HG1 hg8 ⊢
    clear hg8e
    revert HBM HM1 HR1 HL1 hg8
    generalize w1.alloc (.cells #[.int .u64 x.id, .int .i64 x.lv, .int .i64 x.st, .int .i64 x.en, .int .i64 x.pg, .int .i64 x.tr] 35) = w2
    intro HM1 HR1 HL1 hg8 HBM
    obtain ⟨S, hS⟩ : ∃ S : World → Prop, S = fun u => Blk u g8 35 #[.int .u64 x.id, .int .i64 x.lv, .int .i64 x.st, .int .i64 x.en, .int .i64 x.pg, .int .i64 x.tr] ∧ CntM u (w.heap.size + 1) (k + 1) (cntF (l.take k) long) := ⟨_, rfl⟩
    have HS := Lib.hid fun (u : World) (hu : S u) => (hS ▸ hu : _ ∧ _)
    have HSI := Lib.hid fun (u : World) (h1 : Blk u g8 35 #[.int .u64 x.id, .int .i64 x.lv, .int .i64 x.st, .int .i64 x.en, .int .i64 x.pg, .int .i64 x.tr]) (h2 : CntM u (w.heap.size + 1) (k + 1) (cntF (l.take k) long)) => (hS ▸ ⟨h1, h2⟩ : S u)
    have HSC := Lib.hid fun (u : World) (hu : S u) => (by
      have hb := (HS.out u hu).1
      have d0 := hb.cell 0
      have d1 := hb.cell 1
      have d2 := hb.cell 2
      have d3 := hb.cell 3
      have d4 := hb.cell 4
      have d5 := hb.cell 5
      simp at d0 d1 d2 d3 d4 d5
      have hl := (HS.out u hu).2.look (a := x.lv) (c := wx) ⟨HOX.out.lv0, HOX.out.lv1⟩ (HWX.out ▸ HIW.out)
      rw [← HCV.out] at hl
      exact ⟨d0, d1, d2, d3, d4, d5, hl⟩ : u.cell? ⟨g8, 0, none⟩ = some (.int .u64 x.id) ∧ u.cell? ⟨g8, 1, none⟩ = some (.int .i64 x.lv) ∧ u.cell? ⟨g8, 2, none⟩ = some (.int .i64 x.st) ∧ u.cell? ⟨g8, 3, none⟩ = some (.int .i64 x.en) ∧ u.cell? ⟨g8, 4, none⟩ = some (.int .i64 x.pg) ∧ u.cell? ⟨g8, 5, none⟩ = some (.int .i64 x.tr) ∧ (Instr.lookup 41 (.map (some (w.heap.size + 1))) (plV x.lv wx) false).run Try.prog u = .ok (.int .i64 cv) u)
    clear hS
    refine wp_region_mix3 8 [(0, 0), (1, 0), (2, 0), (3, 1), (4, 0), (5, 0), (6, 1), (7, 0), (8, 2)] S (by kernel_rfl) (by kernel_rfl) (by decide +kernel) rfl (HSI.out _ HBM.out (HM1.out.mono (Nat.le_succ k))) ?_
    repeat
      (refine mix3_read (o := ⟨_, _, _, _, _, _⟩) (v := ?_) rfl (by rfl) (fun w' hU => ?_) ?_
       rotate_left
       obtain ⟨d0, d1, d2, d3, d4, d5, d6⟩ := HSC.out _ hU
       go_simp
       with_reducible rfl
       try simp only [Act.put, List.setIfInBounds_toArray, List.set_cons_zero, List.set_cons_succ])
    refine mix3_step (o := ⟨_, _, _, _, _, _⟩) rfl (fun K hK => ?_)
    go_simp
    refine (placeOf_any x long _ HOX.out hl1).mono ?_
    rintro e w3 ⟨rfl, hb3⟩
    rw [← HWX.out]
    replace hb3 : Below w2.heap.size w2 w3 := ⟨hb3.os, hb3.tape, hb3.output, hb3.size, hb3.block⟩
    have HM3 := Lib.hid (HM1.out.below hb3)
    have HR3 := Lib.hid (HR1.out.below hb3 HR1.out.lt)
    have HL3 := Lib.hid (HL1.out.trans (hb3.mono HL1.out.size))
    have HBM3 := Lib.hid (HBM.out.below hb3 HBM.out.lt)
    refine hK.out _ _ (HSI.out _ HBM3.out (HM3.out.mono (Nat.le_succ k))) ?_
    clear hK K hb3
    try simp only [Act.put, List.setIfInBounds_toArray, List.set_cons_zero, List.set_cons_succ]
    repeat
      (refine mix3_read (o := ⟨_, _, _, _, _, _⟩) (v := ?_) rfl (by rfl) (fun w' hU => ?_) ?_
       rotate_left
       obtain ⟨d0, d1, d2, d3, d4, d5, d6⟩ := HSC.out _ hU
       go_simp
       with_reducible rfl
       try simp only [Act.put, List.setIfInBounds_toArray, List.set_cons_zero, List.set_cons_succ])
    obtain ⟨st, w4, hme, hg4, hm4, hst⟩ := HM3.out.entry (by unfold maxLen; omega) (a := x.lv) (c := wx) ⟨HOX.out.lv0, HOX.out.lv1⟩ (HWX.out ▸ HIW.out)
    rw [← HCV.out] at hme
    obtain ⟨w5, hes, hg5, hm5⟩ := hst (cv + 1) HCR.out
    have HG4 := Lib.hid hg4
    have HM4 := Lib.hid hm4
    have HG5 := Lib.hid hg5
    have HM5 := Lib.hid hm5
    clear hst hg4 hm4 hg5 hm5
    refine mix3_step (o := ⟨_, _, _, _, _, _⟩) rfl (fun K hK => ?_)
    go_simp
    refine hK.out _ _ (HSI.out _ (HBM3.out.grown HG4.out (by intro e; have := Option.some.inj e; have := HG1.out; omega)) HM4.out) ?_
    clear hK K
    try simp only [Act.put, List.setIfInBounds_toArray, List.set_cons_zero, List.set_cons_succ]
    refine mix3_read (o := ⟨_, _, _, _, _, _⟩) (v := ?_) rfl (by rfl) (fun w' hU => ?_) ?_
    rotate_left
    go_simp
    with_reducible rfl
    try simp only [Act.put, List.setIfInBounds_toArray, List.set_cons_zero, List.set_cons_succ]
    rw [IntWalk.i64_in (cv + 1) HCR.out]
    refine mix3_store (o := ⟨_, _, _, _, _, _⟩) rfl (fun K hK => ?_)
    simp only [goInt] at hes
    go_simp
    refine hK.out _ _ ?_
    clear hK K
    refine mix3_done ?_
    try simp only [Act.put, List.setIfInBounds_toArray, List.set_cons_zero, List.set_cons_succ]
    have HL5 : Hid (Below w.heap.size w w5) := Lib.hid (HL3.out.grown HG5.out HL3.out.size (by intro z hz; have := Option.some.inj hz; omega))
    have HR5 : Hid (Blk w5 w.heap.size 37 #[.int .i64 0, .int .i64 0]) := Lib.hid (HR3.out.grown HG5.out (by intro e; have := Option.some.inj e; omega))
    have HF5 : Hid (CntM w5 (w.heap.size + 1) (k + 1) (cntF (l.take (k + 1)) long)) := Lib.hid (HM5.out.same fun a c _ _ => by rw [cntF_next HX.out HLV.out, ← HWX.out, ← HCV.out])
    clear hme hes HM5 HM4 HM3 HM1 HSC HSI HS
    go_wp2_with fail
    go_roundg gk1
    case measure => omega
    case rel => exact ⟨k + 1, by omega, by go_num, Lib.hid ⟨HL5.out, HR5.out, HF5.out⟩⟩

end Go.Proofs.Ytohcbgchloncmaa

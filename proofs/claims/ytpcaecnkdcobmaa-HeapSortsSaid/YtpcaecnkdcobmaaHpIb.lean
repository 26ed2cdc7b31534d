/-
  THE PROGRAM's HEAP of int: CONTRACTS of New, Len, Peek, Pop, Push. Conditions: what each says.
-/
import Derived.Test.YtpcaecnkdcobmaaHpI
import Derived.Lib.SliceRun
namespace Go.Proofs.Ytpcaecnkdcobmaa
open Go.RowKit
set_option maxRecDepth 100000

theorem hpLen_I {w : World} {F : Nat → Prop} {g p : Nat} {fv v : Value} {a : List (Turn Int)} (h : HpM 56 58 2 iC w F g fv p a v) :
    Calls Try.prog 20 #[.pointer (some ⟨g, 0, none⟩)] w fun e w' => e = .returned (.int .i64 (a.length : Int)) ∧ w = w' := by
  have k1 := h.blk.cell 1
  simp at k1
  obtain ⟨A, c, rfl, hc1, hc2⟩ := h.own.lv.form
  rw [List.length_map] at k1 hc1
  clear h
  go_enter Try.func20, Try.ntmps20
  go_wp2_with fail
  go_ret
  exact ⟨rfl, rfl⟩
theorem hpNew_I (w : World) (fv : Value) (hf : ∃ fn cap, fv = .func (.func fn) #[] cap) :
    Calls Try.prog 14 #[fv] w fun e w' => ∃ (g : Nat) (F : Nat → Prop), e = .returned (.pointer (some ⟨g, 0, none⟩)) ∧ HpM 56 58 2 iC w' F g fv 0 [] (.slice none 0 0) ∧ Below w.heap.size w w' ∧ ∀ q, F q → w.heap.size ≤ q := by
  obtain ⟨fn, cap, rfl⟩ := hf
  go_enter Try.func14, Try.ntmps14
  go_wp2_with fail
  go_ret
  exact ⟨w.heap.size, fun q => q = w.heap.size, rfl, ⟨fun q hq => by simp; omega, rfl, Blk.new _ _ _, OwnL.nil _ _ _ _, fun q hq => by simp [Value.ownBlock] at hq⟩, (Below.refl _ w).alloc (Nat.le_refl _) _, fun q hq => by omega⟩
set_option maxHeartbeats 800000 in
theorem hpPeekNo_I {w : World} {F : Nat → Prop} {g p : Nat} {fv v : Value} (h : HpM 56 58 2 iC w F g fv p [] v) :
    Calls Try.prog 19 #[.pointer (some ⟨g, 0, none⟩)] w fun e w' => e = .returned (.tuple #[.int .i64 0, .bool false]) ∧ Below w.heap.size w w' := by
  have hg := h.blk.lt
  have k1 := h.blk.cell 1
  simp at k1
  obtain ⟨A, c, rfl, hc1, hc2⟩ := h.own.lv.form
  simp at k1
  clear h
  go_enter Try.func19, Try.ntmps19
  go_wp2_with fail
  go_ret2
  exact ⟨rfl, Below.refl _ _⟩
set_option maxHeartbeats 800000 in
theorem hpPeek_I {w : World} {F : Nat → Prop} {g p : Nat} {fv v : Value} {x : Int} {s : Nat} {a : List (Turn Int)} (h : HpM 56 58 2 iC w F g fv p a v) (hx : a[0]? = some (x, s)) :
    Calls Try.prog 19 #[.pointer (some ⟨g, 0, none⟩)] w fun e w' => e = .returned (.tuple #[.int .i64 x, .bool true]) ∧ Below w.heap.size w w' := by
  have hg := h.blk.lt
  have k1 := h.blk.cell 1
  simp at k1
  have hpos := (List.getElem?_eq_some_iff.1 hx).1
  rcases h.form with ⟨_, e⟩ | ⟨q, c, rfl, hc1, hc2, hF, hq, hfz⟩
  · rw [e] at hx
    cases hx
  have hc := h.cell (by omega) rfl hx
  have HT : Hid (True ∧ w.cell? ⟨q, 0, none⟩ = some (.int .i64 x) ∧ w.cell? ⟨q, 1, none⟩ = some (.int .u64 (s : Int))) := Lib.hid ⟨trivial, by simpa using hc 0 _ rfl, by simpa using hc 1 _ rfl⟩
  obtain ⟨_, ⟨fx0, fx1⟩⟩ := HT.out
  generalize a.length = n at *
  have hl0 : ((n : Int) == 0) = false := by simp; omega
  have a0 : (0 : Int) < (n : Int) := by omega
  clear h hc hfz
  go_enter Try.func19, Try.ntmps19
  go_wp2_with fail
  go_ret2
  exact ⟨rfl, Below.refl _ _⟩
theorem hpT_I : ElemT Try.prog 54 58 2 16 := ⟨Try.underlying54, by omega, by
  refine ⟨_, _, rfl, rfl, rfl, rfl, ?_⟩
  rfl⟩
set_option maxHeartbeats 1600000 in
theorem hpPush_I {w : World} {F : Nat → Prop} {g p : Nat} {fv v : Value} {R : Int → Int → Bool} {D : Int → Prop} {x : Int} {a : List (Turn Int)} (h : HpM 56 58 2 iC w F g fv p a v) (hR : WeakO R D) (hL : Keep F (LessAt vI fv R D) w) (hD : ∀ z ∈ a, D z.1) (hx : D x) (hH : HeapOk (turnB R) a) (hl : a.length ≤ 1000000) (hp : p ≤ 1000000) :
    Calls Try.prog 16 #[.pointer (some ⟨g, 0, none⟩), .int .i64 x] w fun e w' => e = .returned (.tuple #[]) ∧ ∃ a' v' F', HpM 56 58 2 iC w' F' g fv (p + 1) a' v' ∧ Apt F w w' ∧ (∀ q, F' q → F q ∨ w.heap.size ≤ q) ∧ a'.Perm (a ++ [(x, p)]) ∧ HeapOk (turnB R) a' := by
  have h0 := h
  have HBW : Hid (Below w.heap.size w w) := Lib.hid (Below.refl _ _)
  have H0 := Lib.hid h
  have hL0 := hL
  obtain ⟨W, hWE⟩ : ∃ W, W = w := ⟨_, rfl⟩
  rw [← hWE] at h0 HBW hL0
  have H := Lib.hid h0
  have hg := h0.blk.lt
  have k1 := h0.blk.cell 1
  have k2 := h0.blk.cell 2
  simp at k1 k2
  obtain ⟨A, c, rfl, hc1, hc2⟩ := h0.own.lv.form
  rw [List.length_map] at H k1 hc1 H0
  have HLL := Lib.hid hL0
  have HD := Lib.hid hD
  have HH := Lib.hid hH
  have HO := Lib.hid H.out.own
  rw [show (a.map (tuC iC)).length = a.length from List.length_map ..] at *
  clear h h0 hL hL0 hD hH
  go_enter Try.func16, Try.ntmps16
  rw [← hWE]
  go_wp2_with fail
  have HWE := Lib.hid hWE
  clear hWE
  have hS : Hid (∀ u, Apt (fun z => (Value.slice A a.length c).ownBlock = some z) W u → u.cell? ⟨g, 1, none⟩ = some (.slice A a.length c) ∧ u.cell? ⟨g, 2, none⟩ = some (.int .u64 (p : Int)) ∧ True
      ) := Lib.hid fun u hu => by
    have hgb : ¬ (Value.slice A a.length c).ownBlock = some g := fun e => (H.out.Fv g e).2 rfl
    refine ⟨(World.cell?_of_block (hu.block g hg hgb)).trans k1, (World.cell?_of_block (hu.block g hg hgb)).trans k2, trivial
      ⟩
  have HAb : ∀ z, (Value.slice A a.length c).ownBlock = some z → F z := fun z hz => (H.out.Fv z hz).1
  have HABad := Lib.hid HAb
  clear HAb k1 k2
  refine wp_region_mix3 15 [(0, 0), (1, 0), (2, 0), (3, 0), (4, 0), (5, 0), (6, 0), (7, 0), (8, 0), (9, 0), (10, 0), (11, 1), (12, 1), (13, 0), (14, 0), (15, 2)] (fun u => Apt (fun z => (Value.slice A a.length c).ownBlock = some z) W u) (by kernel_rfl) (by kernel_rfl) (by decide +kernel) rfl (Apt.of_below (Below.refl _ _).drew) ?_
  repeat
    (refine mix3_read (o := ⟨_, _, _, _, _, _⟩) (v := ?_) rfl (by rfl) (fun w' hU => ?_) ?_
     rotate_left
     have hU' := hS.out _ hU
     obtain ⟨hU1, hU2, hU3⟩ := hU'
     go_simp
     with_reducible rfl
     try simp only [Act.put, List.setIfInBounds_toArray, List.set_cons_zero, List.set_cons_succ])
  refine mix3_step (o := ⟨_, _, _, _, _, _⟩) rfl (fun K hK => ?_)
  go_simp
  have ha0 : Below W.heap.size W (W.alloc (.cells #[.int .i64 x, .int .u64 (p : Int)] 58)).drew := ((Below.refl W.heap.size W).alloc (Nat.le_refl _) _).drew
  refine hK.out _ _ (Apt.of_below ha0) ?_
  clear hK K
  try simp only [Act.put, List.setIfInBounds_toArray, List.set_cons_zero, List.set_cons_succ]
  refine mix3_step (o := ⟨_, _, _, _, _, _⟩) rfl (fun K hK => ?_)
  refine step_append_elems hpT_I rfl _ _ rfl rfl (HO.out.below ha0) rfl (Lv.lit1 W.drew (tuC iC (x, p)) 58) (by intro y hy; simp at hy; subst hy; simp [tuC, iC, Value.oneCell']) (by simp only [maxLen, List.length_map, List.length_singleton]; omega) (by simp only [List.length_map, List.length_singleton]; omega) (Nat.zero_le _) ?_
  intro v6 w6 ho6 hg6 hv6
  replace hg6 : (W.alloc (.cells #[.int .i64 x, .int .u64 (p : Int)] 58)).drew.grownBy w6 (Value.slice A a.length c).ownBlock := hg6
  have hz1 : (W.alloc (.cells #[.int .i64 x, .int .u64 (p : Int)] 58)).drew.heap.size = W.heap.size + 1 := by simp
  replace hv6 : v6.ownBlock = (Value.slice A a.length c).ownBlock ∨ v6.ownBlock = some (W.alloc (.cells #[.int .i64 x, .int .u64 (p : Int)] 58)).drew.heap.size := hv6
  rw [hz1] at hv6
  have hap6 : Apt (fun z => (Value.slice A a.length c).ownBlock = some z) W w6 := (Apt.of_below ha0).trans (Apt.of_grown hg6 fun z hz => hz)
  refine hK.out _ _ hap6 ?_
  clear hK K
  try simp only [Act.put, List.setIfInBounds_toArray, List.set_cons_zero, List.set_cons_succ]
  repeat
    (refine mix3_read (o := ⟨_, _, _, _, _, _⟩) (v := ?_) rfl (by rfl) (fun w' hU => ?_) ?_
     rotate_left
     have hU' := hS.out _ hU
     obtain ⟨hU1, hU2, hU3⟩ := hU'
     go_simp
     with_reducible rfl
     try simp only [Act.put, List.setIfInBounds_toArray, List.set_cons_zero, List.set_cons_succ])
  have hB6 : Blk w6 g 56 #[fv, .slice A a.length c, .int .u64 (p : Int)] := (hap6.block g hg fun e => (H.out.Fv g e).2 rfl).trans H.out.blk
  have hv6g : ∀ z, v6.ownBlock = some z → z ≠ g := fun z hz e => by
    subst e
    rcases hv6 with h | h
    · exact (H.out.Fv z (h.symm.trans hz)).2 rfl
    · rw [hz] at h
      injection h with h
      omega
  have ho6' : OwnL 2 w6 0 58 v6 ((a ++ [(x, p)]).map (tuC iC)) := by
    rw [List.map_append]
    exact ho6
  obtain ⟨A6, c6, hv6f, hc61, hc62⟩ := ho6'.lv.form
  rw [List.length_map, List.length_append, List.length_singleton] at hv6f hc61
  subst hv6f
  have k61 := hB6.cell 1
  have k62 := hB6.cell 2
  have f61 := hB6.frozen 1
  have f62 := hB6.frozen 2
  simp at k61 k62
  have hB7 : Blk (w6.setCell ⟨g, 1, none⟩ (.slice A6 (a.length + 1) c6)) g 56 #[fv, .slice A6 (a.length + 1) c6, .int .u64 (p : Int)] := by
    have := Blk.set_ hB6 1 (.slice A6 (a.length + 1) c6)
    simp only [List.setIfInBounds_toArray, List.set_cons_succ, List.set_cons_zero] at this
    exact this
  have hB8 : Blk ((w6.setCell ⟨g, 1, none⟩ (.slice A6 (a.length + 1) c6)).setCell ⟨g, 2, none⟩ (.int .u64 ((p + 1 : Nat) : Int))) g 56 #[fv, .slice A6 (a.length + 1) c6, .int .u64 ((p + 1 : Nat) : Int)] := by
    have := Blk.set_ hB7 2 (.int .u64 ((p + 1 : Nat) : Int))
    simp only [List.setIfInBounds_toArray, List.set_cons_succ, List.set_cons_zero] at this
    exact this
  rw [show ((p + 1 : Nat) : Int) = (p : Int) + 1 by omega] at hB8
  have hgs7 := grown_set w6 g 1 (.slice A6 (a.length + 1) c6)
  have hgs8 := grown_set (w6.setCell ⟨g, 1, none⟩ (.slice A6 (a.length + 1) c6)) g 2 (.int .u64 ((p : Int) + 1))
  have hap8 : Apt F W ((w6.setCell ⟨g, 1, none⟩ (.slice A6 (a.length + 1) c6)).setCell ⟨g, 2, none⟩ (.int .u64 ((p : Int) + 1))) := (hap6.mono fun z _ hz => HABad.out z hz).trans (Apt.of_grown (grown_trans hgs7 hgs8) fun z hz => by
    injection hz with hz
    subst hz
    exact H.out.Fg)
  have hno : ∀ z, (F z ∨ (Value.slice A6 (a.length + 1) c6).ownBlock = some z) → F z ∨ W.heap.size ≤ z := fun z hz => hz.elim .inl fun h => by
    rcases hv6 with h1 | h1
    · exact .inl (HABad.out z (h1.symm.trans h))
    · rw [h] at h1
      injection h1 with h1
      exact .inr (by omega)
  have hm8 : HpM 56 58 2 iC ((w6.setCell ⟨g, 1, none⟩ (.slice A6 (a.length + 1) c6)).setCell ⟨g, 2, none⟩ (.int .u64 ((p : Int) + 1))) (fun z => F z ∨ (Value.slice A6 (a.length + 1) c6).ownBlock = some z) g fv (p + 1) (a ++ [(x, p)]) (.slice A6 (a.length + 1) c6) :=
    ⟨fun z hz => Nat.lt_of_lt_of_le (hz.elim (fun h => Nat.lt_of_lt_of_le (H.out.lt z h) hap6.size) fun h => ho6'.lt z h) (grown_trans hgs7 hgs8).size, .inl H.out.Fg, hB8, ho6'.kept (grown_trans hgs7 hgs8) (by
      cases hq : (Value.slice A6 (a.length + 1) c6).ownBlock with
      | none => exact .inl rfl
      | some z => exact .inr fun e => hv6g z hq (by injection e)), fun z hz => ⟨.inr hz, hv6g z hz⟩⟩
  have HM8 := Lib.hid hm8
  have HAp8 := Lib.hid hap8
  have HNo := Lib.hid hno
  have hrise := hpRise_I hm8 hR (HLL.out.go hap8 hno) (fun z hz => by
    rcases List.mem_append.1 hz with h | h
    · exact HD.out z h
    · simp at h
      subst h
      exact hx) (by rw [List.length_append, List.length_singleton, Nat.add_sub_cancel]; exact HH.out.push _) (by simp) (by rw [List.length_append, List.length_singleton]; omega)
  have k72 := hB7.cell 2
  have f72 := hB7.frozen 2
  have k81 := hB8.cell 1
  simp at k72 k81
  clear ho6 hg6 hv6 hap6 hB6 hv6g ho6' hB7 hB8 hgs7 hgs8 hap8 hno hm8 ha0 hz1
  refine mix3_store (o := ⟨_, _, _, _, _, _⟩) rfl (fun K hK => ?_)
  go_simp
  refine hK.out _ _ ?_
  clear hK K
  refine mix3_done ?_
  generalize w6.setCell ⟨g, 1, none⟩ (.slice A6 (a.length + 1) c6) = w7 at *
  go_wp2_with fail
  refine hrise.mono ?_
  rintro e w9 ⟨rfl, b, hm9, hap9, hperm, hheap⟩
  go_wp2_with fail
  refine bodyPost_end (results_none rfl _ _ _) rfl ?_
  have hgo := (Goes.mk HAp8.out HNo.out).trans ⟨hap9, fun _ => .inl⟩
  exact ⟨rfl, b, _, _, hm9, hgo.apt, hgo.new, hperm, hheap⟩
set_option maxHeartbeats 1600000 in
theorem hpPop_I {w : World} {F : Nat → Prop} {g p : Nat} {fv v : Value} {R : Int → Int → Bool} {D : Int → Prop} {x : Int} {s : Nat} {a : List (Turn Int)} (h : HpM 56 58 2 iC w F g fv p a v) (hR : WeakO R D) (hL : Keep F (LessAt vI fv R D) w) (hD : ∀ z ∈ a, D z.1) (hx : a[0]? = some (x, s)) (hH : HeapOk (turnB R) a) (hl : a.length ≤ 1000001) :
    Calls Try.prog 17 #[.pointer (some ⟨g, 0, none⟩)] w fun e w' => e = .returned (.tuple #[.int .i64 x, .bool true]) ∧ ∃ a' v', HpM 56 58 2 iC w' F g fv p a' v' ∧ Apt F w w' ∧ ((x, s) :: a').Perm a ∧ HeapOk (turnB R) a' := by
  have H := Lib.hid h
  have HR := Lib.hid hR
  have HL := Lib.hid hL
  have HD := Lib.hid hD
  have HX := Lib.hid hx
  have HH := Lib.hid hH
  have hpos := (List.getElem?_eq_some_iff.1 hx).1
  obtain ⟨n, hn⟩ : ∃ n, a.length = n + 1 := ⟨a.length - 1, by omega⟩
  obtain ⟨⟨y, t⟩, hy⟩ : ∃ z, a[n]? = some z := ⟨_, List.getElem?_eq_getElem (by omega)⟩
  have HY := Lib.hid hy
  have HN := Lib.hid hn
  have hnn : n ≤ 1000000 := by omega
  have hg := h.blk.lt
  rcases h.form with ⟨_, e⟩ | ⟨q, c, rfl, hc1, hc2, hF, hq, hfz⟩
  · rw [e] at hx
    cases hx
  have HFq := Lib.hid hF
  rw [hn] at H hc1
  clear h hR hL hD hx hy hH hpos hn hl hF hfz
  obtain ⟨W, hWE⟩ : ∃ W, W = w := ⟨_, rfl⟩
  have HBW : Hid (Below w.heap.size w W) := Lib.hid (by rw [hWE]; exact Below.refl _ _)
  go_enter Try.func17, Try.ntmps17
  go_wp2_with fail
  rw [← hWE]
  have HWE := Lib.hid hWE
  clear hWE
  refine (hpPeek_I (H.out.later HBW.out) HX.out).mono ?_
  rintro e w1 ⟨rfl, hb1⟩
  have HB2 : Hid (Below W.heap.size W w1) := Lib.hid hb1
  have k1 := ((H.out.later HBW.out).later HB2.out).blk.cell 1
  simp at k1
  go_wp2_with fail
  obtain ⟨w2, hw2⟩ : ∃ u, u = w1 := ⟨_, rfl⟩
  subst hw2
  have HM2 := Lib.hid ((H.out.later HBW.out).later HB2.out)
  have hg2 := HM2.out.blk.lt
  have HS : Hid (∀ u, Below w2.heap.size w2 u → u.cell? ⟨g, 1, none⟩ = some (.slice (some ⟨q, 0, none⟩) (n + 1) c) ∧ (True ∧ u.cell? ⟨q, n * 2, none⟩ = some (.int .i64 y) ∧ u.cell? ⟨q, n * 2 + 1, none⟩ = some (.int .u64 (t : Int)))) := Lib.hid fun u hu => by
    have c1 := (HM2.out.later hu).cell (by omega) rfl HY.out
    exact ⟨(hu.cell (p := ⟨g, 1, none⟩) hg2).trans k1, ⟨trivial, by simpa using c1 0 _ rfl, by simpa using c1 1 _ rfl⟩⟩
  have hc0 := HM2.out.cell (by omega) rfl HX.out
  have HT : Hid (True ∧ w2.cell? ⟨q, 0, none⟩ = some (.int .i64 x) ∧ w2.cell? ⟨q, 1, none⟩ = some (.int .u64 (s : Int))) := Lib.hid ⟨trivial, by simpa using hc0 0 _ rfl, by simpa using hc0 1 _ rfl⟩
  obtain ⟨_, ⟨fx0, fx1⟩⟩ := HT.out
  have hfz := fun j => HM2.out.fz rfl j
  have s1 := HM2.out.own.all2 (i := 0) (by rw [List.length_map, HN.out]; omega) (.int .i64 y) (.int .u64 (t : Int))
  simp only [Nat.zero_mul, Nat.zero_add] at s1
  have HG3 : Hid (w2.grownBy ((w2.setCell ⟨q, 0, none⟩ (.int .i64 y)).setCell ⟨q, 1, none⟩ (.int .u64 (t : Int))).drew (some q)) := Lib.hid (grown_drewN s1.2 1)
  have HO3 : Hid (OwnL 2 ((w2.setCell ⟨q, 0, none⟩ (.int .i64 y)).setCell ⟨q, 1, none⟩ (.int .u64 (t : Int))).drew 0 58 (.slice (some ⟨q, 0, none⟩) (n + 1) c) ((a.map (tuC iC)).set 0 (tuC iC (y, t)))) := Lib.hid s1.1
  have a0 : (0 : Int) ≤ (n : Int) := by omega
  have a1 : (n : Int) < (n : Int) + 1 := by omega
  have a2 : (0 : Int) < (n : Int) + 1 := by omega
  clear s1 hc0 hb1
  refine wp_region_mix3 12 [(0, 0), (1, 0), (2, 0), (3, 0), (4, 0), (5, 0), (6, 0), (7, 0), (8, 0), (9, 0), (10, 0), (11, 0), (12, 2)] (fun u => Below w2.heap.size w2 u) (by kernel_rfl) (by kernel_rfl) (by decide +kernel) rfl (Below.refl _ _).drew ?_
  repeat
    (refine mix3_read (o := ⟨_, _, _, _, _, _⟩) (v := ?_) rfl (by rfl) (fun w' hU => ?_) ?_
     rotate_left
     obtain ⟨hU1, hU2⟩ := HS.out _ hU
     go_simp
     with_reducible rfl
     try simp only [Act.put, List.setIfInBounds_toArray, List.set_cons_zero, List.set_cons_succ])
  refine mix3_store (o := ⟨_, _, _, _, _, _⟩) rfl (fun K hK => ?_)
  go_simp
  refine hK.out _ _ ?_
  clear hK K
  refine mix3_done ?_
  generalize hw3 : ((w2.setCell ⟨q, 0, none⟩ (.int .i64 y)).setCell ⟨q, 1, none⟩ (.int .u64 (t : Int))).drew = w3 at *
  have hgq : some g ≠ some q := fun e => HFq.out.2 (by injection e with e; exact e.symm)
  have hB3 := HM2.out.blk.grown HG3.out hgq
  obtain ⟨w4, hclr, ho4, hg4⟩ := run_clear_own hpT_I (z := .agg #[.int .i64 0, .int .u64 0]) (by kernel_rfl) (by simp [Value.cells, Value.oneCell']) HO3.out n (by omega)
  have hn1 : n + 1 - n = 1 := by omega
  rw [hn1] at hclr
  clear hn1
  have hB4 := hB3.grown hg4 hgq
  have hB5 := Blk.set_ hB4 1 (.slice (some ⟨q, 0, none⟩) n c)
  simp only [List.setIfInBounds_toArray, List.set_cons_succ, List.set_cons_zero] at hB5
  have hgs := grown_set w4 g 1 (.slice (some ⟨q, 0, none⟩) n c)
  have k31 := hB3.cell 1
  have k41 := hB4.cell 1
  have f41 := hB4.frozen 1
  have k51 := hB5.cell 1
  simp at k31 k41 k51
  have hsl := fun u => run_slice_end hpT_I (by kernel_rfl) q (n + 1) c n (by omega) hc1 u
  have hsu := fun u => run_slice_upto hpT_I (by kernel_rfl) (A := some (⟨q, 0, none⟩ : Addr)) n (show n ≤ n + 1 by omega) hc1 u
  have hap25 : Apt F w2 (w4.setCell ⟨g, 1, none⟩ (.slice (some ⟨q, 0, none⟩) n c)) := (Apt.of_grown (grown_trans HG3.out hg4) fun z hz => by
    injection hz with hz
    subst hz
    exact HFq.out.1).trans (Apt.of_grown hgs fun z hz => by
    injection hz with hz
    subst hz
    exact H.out.Fg)
  have hap5 : Apt F W (w4.setCell ⟨g, 1, none⟩ (.slice (some ⟨q, 0, none⟩) n c)) := (Apt.of_below HB2.out).trans hap25
  have hm5 : HpM 56 58 2 iC (w4.setCell ⟨g, 1, none⟩ (.slice (some ⟨q, 0, none⟩) n c)) F g fv p ((a.set 0 (y, t)).take n) (.slice (some ⟨q, 0, none⟩) n c) :=
    ⟨fun z hz => Nat.lt_of_lt_of_le (H.out.lt z hz) (Nat.le_trans HBW.out.size hap5.size), H.out.Fg, hB5, by
      have := ho4.kept hgs (.inr fun e => HFq.out.2 (by injection e))
      rw [← List.map_set, ← List.map_take] at this
      exact this, fun z hz => by
      have : q = z := by simpa [Value.ownBlock] using hz
      subst this
      exact HFq.out⟩
  have hD5 : ∀ z ∈ (a.set 0 (y, t)).take n, D z.1 := fun z hz => by
    rcases List.mem_or_eq_of_mem_set (List.mem_of_mem_take hz) with h | h
    · exact HD.out z h
    · subst h
      exact HD.out _ (List.mem_of_getElem? HY.out)
  have hsink := hpSink_I hm5 HR.out ((HL.out.below HBW.out).go hap5 fun _ h => .inl h) hD5 (HH.out.behead HN.out) (by omega)
  have HAp5 := Lib.hid hap5
  have HPm := Lib.hid (behead_perm HN.out HX.out HY.out)
  clear hB3 hB4 hB5 hgs hap5 hap25 hm5 hD5 ho4 hg4 hw3 k1 fx0
  go_wp2_with fail
  refine hsink.mono ?_
  rintro e w6 ⟨rfl, b, hm6, hap6, hperm, hheap⟩
  have HGo := Lib.hid ((Goes.of_below HBW.out).trans ((Goes.mk HAp5.out fun _ => .inl).trans (Goes.mk hap6 fun _ => .inl)))
  have HAp6 := Lib.hid (HAp5.out.trans hap6)
  have HPe := Lib.hid ((hperm.cons (x, s)).trans HPm.out)
  have HHe := Lib.hid hheap
  have HM6 := Lib.hid hm6
  clear hsink hperm hheap hm6 hap6
  go_wp2_with fail
  go_ret2
  exact ⟨rfl, b, _, HM6.out, HGo.out.apt, HPe.out, HHe.out⟩
set_option maxHeartbeats 800000 in
theorem hpPopNo_I {w : World} {F : Nat → Prop} {g p : Nat} {fv v : Value} (h : HpM 56 58 2 iC w F g fv p [] v) :
    Calls Try.prog 17 #[.pointer (some ⟨g, 0, none⟩)] w fun e w' => e = .returned (.tuple #[.int .i64 0, .bool false]) ∧ Below w.heap.size w w' := by
  have H := Lib.hid h
  clear h
  go_enter Try.func17, Try.ntmps17
  go_wp2_with fail
  refine (hpPeekNo_I H.out).mono ?_
  rintro e w1 ⟨rfl, hb1⟩
  go_wp2_with fail
  go_ret2
  exact ⟨rfl, hb1⟩
/-- the program's heap holds l, in the order of its pushes, of which there were n -/
def HPp_I (w : World) (F : Nat → Prop) (g : Nat) (fv : Value) (R : Int → Int → Bool) (n : Nat) (l : List Int) : Prop := ∃ a v, HpM 56 58 2 iC w F g fv n a v ∧ HeapOk (turnB R) a ∧ TurnsOf l n a
theorem heapK_I : HeapI HPp_I where
  thing g fv R n l := ⟨fun ⟨a, v, h1, h2, h3⟩ ha => ⟨a, v, h1.keep ha, h2, h3⟩, fun ⟨_, _, h1, _⟩ => h1.lt⟩
  new_ok w fn cap R := (hpNew_I w _ ⟨fn, cap, rfl⟩).mono fun e w' ⟨g, F, h1, h2, h3, h4⟩ => ⟨g, F, h1, ⟨[], _, h2, fun j x y _ hj => by simp at hj, TurnsOf.nil 0⟩, h3, h4⟩
  push {w F g fv R n D l x} h hR hL hD hx hl hn := by
    obtain ⟨a, v, h1, h2, h3⟩ := h
    refine (hpPush_I h1 hR hL (fun z hz => hD _ (h3.mem z hz).1) hx h2 (by rw [h3.len]; exact hl) hn).mono ?_
    rintro e w' ⟨rfl, a', v', F', h4, h5, h6, h7, h8⟩
    exact ⟨rfl, F', ⟨a', v', h4, h8, (h3.push x).perm h7⟩, h5, h6⟩
  pop_none {w F g fv R n} h := by
    obtain ⟨a, v, h1, h2, h3⟩ := h
    have ha : a = [] := List.eq_nil_of_length_eq_zero h3.len
    subst ha
    refine (hpPopNo_I h1).mono ?_
    rintro e w' ⟨rfl, hb⟩
    exact ⟨rfl, F, ⟨[], v, h1.later hb, h2, h3⟩, Apt.of_below hb, fun _ => .inl⟩
  pop {w F g fv R n D l i x} h hR hL hD hF hl := by
    obtain ⟨a, v, h1, h2, h3⟩ := h
    have hi := (List.getElem?_eq_some_iff.1 hF.at_).1
    obtain ⟨⟨y, s⟩, hr⟩ : ∃ z, a[0]? = some z := ⟨_, List.getElem?_eq_getElem (by rw [h3.len]; omega)⟩
    have hDa : ∀ z ∈ a, D z.1 := fun z hz => hD _ (h3.mem z hz).1
    refine (hpPop_I h1 hR hL hDa hr h2 (by rw [h3.len]; omega)).mono ?_
    rintro e w' ⟨rfl, a', v', h4, h5, h6, h7⟩
    obtain ⟨hxy, h8⟩ := h3.first hR hD (List.mem_of_getElem? hr) (fun z hz => by
      obtain ⟨j, hj⟩ := List.getElem?_of_mem hz
      exact h2.head (turnO hR) hDa hr j z hj) hF h6
    replace hxy : y = x := hxy
    subst hxy
    exact ⟨rfl, F, ⟨a', v', h4, h7, h8⟩, h5, fun _ => .inl⟩
  peek_none {w F g fv R n} h := by
    obtain ⟨a, v, h1, h2, h3⟩ := h
    have ha : a = [] := List.eq_nil_of_length_eq_zero h3.len
    subst ha
    refine (hpPeekNo_I h1).mono ?_
    rintro e w' ⟨rfl, hb⟩
    exact ⟨rfl, F, ⟨[], v, h1.later hb, h2, h3⟩, Apt.of_below hb, fun _ => .inl⟩
  peek {w F g fv R n D l i x} h hR hL hD hF hl := by
    obtain ⟨a, v, h1, h2, h3⟩ := h
    have hi := (List.getElem?_eq_some_iff.1 hF.at_).1
    obtain ⟨⟨y, s⟩, hr⟩ : ∃ z, a[0]? = some z := ⟨_, List.getElem?_eq_getElem (by rw [h3.len]; omega)⟩
    have hDa : ∀ z ∈ a, D z.1 := fun z hz => hD _ (h3.mem z hz).1
    refine (hpPeek_I h1 hr).mono ?_
    rintro e w' ⟨rfl, hb⟩
    have h0 : 0 < a.length := (List.getElem?_eq_some_iff.1 hr).1
    obtain ⟨hxy, _⟩ := h3.first hR hD (List.mem_of_getElem? hr) (fun z hz => by
      obtain ⟨j, hj⟩ := List.getElem?_of_mem hz
      exact h2.head (turnO hR) hDa hr j z hj) hF (a1 := a.tail) (by
        match a, hr with
        | b :: t, hr => simp at hr; subst hr; exact List.Perm.refl _)
    replace hxy : y = x := hxy
    subst hxy
    exact ⟨rfl, F, ⟨a, v, h1.later hb, h2, h3⟩, Apt.of_below hb, fun _ => .inl⟩
  len {w F g fv R n l} h _ := by
    obtain ⟨a, v, h1, h2, h3⟩ := h
    refine (hpLen_I h1).mono ?_
    rintro e w' ⟨rfl, rfl⟩
    exact ⟨by rw [h3.len], F, ⟨a, v, h1, h2, h3⟩, Apt.refl _ _, fun _ => .inl⟩
end Go.Proofs.Ytpcaecnkdcobmaa

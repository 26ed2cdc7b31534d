/-
  THE PROGRAM's HEAP of tankard/kway.row[tankard/api.Trace]: CONTRACTS of New, Len, Peek, Pop, Push. Conditions: what each says.
-/
import Derived.Test.YtpanpebllapbcaaHpL
import Derived.Lib.SliceRun
namespace Go.Proofs.Ytpanpebllapbcaa
open Go.RowKit
set_option maxRecDepth 100000

theorem hpLen_KrT {w : World} {F : Nat → Prop} {g p : Nat} {fv v : Value} {a : List (Turn KrT)} (h : HpM 94 96 3 krCT w F g fv p a v) :
    Calls Try.prog 37 #[.pointer (some ⟨g, 0, none⟩)] w fun e w' => e = .returned (.int .i64 (a.length : Int)) ∧ w = w' := by
  have k1 := h.blk.cell 1
  simp at k1
  obtain ⟨A, c, rfl, hc1, hc2⟩ := h.own.lv.form
  rw [List.length_map] at k1 hc1
  clear h
  go_enter Try.func37, Try.ntmps37
  go_wp2_with fail
  go_ret
  exact ⟨rfl, rfl⟩
theorem hpNew_KrT (w : World) (fv : Value) (hf : ∃ fn cap, fv = .func (.func fn) #[] cap) :
    Calls Try.prog 34 #[fv] w fun e w' => ∃ (g : Nat) (F : Nat → Prop), e = .returned (.pointer (some ⟨g, 0, none⟩)) ∧ HpM 94 96 3 krCT w' F g fv 0 [] (.slice none 0 0) ∧ Below w.heap.size w w' ∧ ∀ q, F q → w.heap.size ≤ q := by
  obtain ⟨fn, cap, rfl⟩ := hf
  go_enter Try.func34, Try.ntmps34
  go_wp2_with fail
  go_ret
  exact ⟨w.heap.size, fun q => q = w.heap.size, rfl, ⟨fun q hq => by simp; omega, rfl, Blk.new _ _ _, OwnL.nil _ _ _ _, fun q hq => by simp [Value.ownBlock] at hq⟩, (Below.refl _ w).alloc (Nat.le_refl _) _, fun q hq => by omega⟩
set_option maxHeartbeats 800000 in
theorem hpPeekNo_KrT {w : World} {F : Nat → Prop} {g p : Nat} {fv v : Value} (h : HpM 94 96 3 krCT w F g fv p [] v) :
    Calls Try.prog 51 #[.pointer (some ⟨g, 0, none⟩)] w fun e w' => e = .returned (.tuple #[.agg #[.slice none 0 0, .int .i64 0], .bool false]) ∧ Below w.heap.size w w' := by
  have hg := h.blk.lt
  have k1 := h.blk.cell 1
  simp at k1
  obtain ⟨A, c, rfl, hc1, hc2⟩ := h.own.lv.form
  simp at k1
  clear h
  have HB1 : Hid (Below w.heap.size w (w.alloc (.cells #[.slice none 0 0, .int .i64 0] 75))) := Lib.hid ((Below.refl _ w).alloc (Nat.le_refl _) _)
  have r1 := (HB1.out.cell (p := ⟨g, 1, none⟩) hg).trans k1
  have HX1 := Lib.hid (Blk.new w 75 #[.slice none 0 0, .int .i64 0])
  go_enter Try.func51, Try.ntmps51
  go_wp2_with fail
  have hy1 := (Blk.new (w.alloc (.cells #[.slice none 0 0, .int .i64 0] 75)) 75 #[.slice none 0 0, .int .i64 0])
  have HB2 : Hid (Below w.heap.size w ((w.alloc (.cells #[.slice none 0 0, .int .i64 0] 75)).alloc (.cells #[.slice none 0 0, .int .i64 0] 75))) := Lib.hid (HB1.out.alloc HB1.out.size _)
  have r2 := HX1.out.alloc (.cells #[.slice none 0 0, .int .i64 0] 75)
  refine bodyPost_ret (v := .tuple #[.agg #[.slice none 0 0, .int .i64 0], .bool false]) (by have c := r2.cell; simp [results, go_sem, c]; try rfl) rfl ?_
  exact ⟨rfl, HB2.out⟩
set_option maxHeartbeats 800000 in
theorem hpPeek_KrT {w : World} {F : Nat → Prop} {g p : Nat} {fv v : Value} {x : KrT} {s : Nat} {a : List (Turn KrT)} (h : HpM 94 96 3 krCT w F g fv p a v) (hx : a[0]? = some (x, s)) :
    Calls Try.prog 51 #[.pointer (some ⟨g, 0, none⟩)] w fun e w' => e = .returned (.tuple #[.agg #[.slice x.A x.n x.c, .int .i64 (x.pl : Int)], .bool true]) ∧ Below w.heap.size w w' := by
  have hg := h.blk.lt
  have k1 := h.blk.cell 1
  simp at k1
  have hpos := (List.getElem?_eq_some_iff.1 hx).1
  rcases h.form with ⟨_, e⟩ | ⟨q, c, rfl, hc1, hc2, hF, hq, hfz⟩
  · rw [e] at hx
    cases hx
  have hc := h.cell (by omega) rfl hx
  have HT : Hid (True ∧ w.cell? ⟨q, 0, none⟩ = some (.slice x.A x.n x.c) ∧ w.cell? ⟨q, 1, none⟩ = some (.int .i64 (x.pl : Int)) ∧ w.cell? ⟨q, 2, none⟩ = some (.int .u64 (s : Int))) := Lib.hid ⟨trivial, by simpa using hc 0 _ rfl, by simpa using hc 1 _ rfl, by simpa using hc 2 _ rfl⟩
  obtain ⟨_, ⟨fx0, fx1, fx2⟩⟩ := HT.out
  generalize a.length = n at *
  have hl0 : ((n : Int) == 0) = false := by simp; omega
  have a0 : (0 : Int) < (n : Int) := by omega
  clear h hc hfz
  have HB1 : Hid (Below w.heap.size w (w.alloc (.cells #[.slice none 0 0, .int .i64 0] 75))) := Lib.hid ((Below.refl _ w).alloc (Nat.le_refl _) _)
  have r1 := (HB1.out.cell (p := ⟨g, 1, none⟩) hg).trans k1
  have HX1 := Lib.hid (Blk.new w 75 #[.slice none 0 0, .int .i64 0])
  go_enter Try.func51, Try.ntmps51
  go_wp2_with fail
  have r2 := Blk.new w 75 #[.slice x.A x.n x.c, .int .i64 (x.pl : Int)]
  refine bodyPost_ret (v := .tuple #[.agg #[.slice x.A x.n x.c, .int .i64 (x.pl : Int)], .bool true]) (by have c := r2.cell; simp [results, go_sem, c]; try rfl) rfl ?_
  exact ⟨rfl, (Below.refl _ w).alloc (Nat.le_refl _) _⟩
theorem hpT_KrT : ElemT Try.prog 92 96 3 40 := ⟨Try.underlying92, by omega, by
  refine ⟨_, _, rfl, rfl, rfl, rfl, ?_⟩
  rfl⟩
set_option maxHeartbeats 1600000 in
theorem hpPush_KrT {w : World} {F : Nat → Prop} {g p : Nat} {fv v : Value} {R : KrT → KrT → Bool} {D : KrT → Prop} {x : KrT} {a : List (Turn KrT)} (h : HpM 94 96 3 krCT w F g fv p a v) (hR : WeakO R D) (hL : Keep F (LessAt krV fv R D) w) (hD : ∀ z ∈ a, D z.1) (hx : D x) (hH : HeapOk (turnB R) a) (hl : a.length ≤ 1000000) (hp : p ≤ 1000000) :
    Calls Try.prog 36 #[.pointer (some ⟨g, 0, none⟩), .agg #[.slice x.A x.n x.c, .int .i64 (x.pl : Int)]] w fun e w' => e = .returned (.tuple #[]) ∧ ∃ a' v' F', HpM 94 96 3 krCT w' F' g fv (p + 1) a' v' ∧ Apt F w w' ∧ (∀ q, F' q → F q ∨ w.heap.size ≤ q) ∧ a'.Perm (a ++ [(x, p)]) ∧ HeapOk (turnB R) a' := by
  have hbw : Below w.heap.size w (w.alloc (.cells #[.slice x.A x.n x.c, .int .i64 (x.pl : Int)] 75)) := (Below.refl _ w).alloc (Nat.le_refl _) _
  have HBW := Lib.hid hbw
  have hxb := Blk.new w 75 #[.slice x.A x.n x.c, .int .i64 (x.pl : Int)]
  have hbx : w.heap.size < (w.alloc (.cells #[.slice x.A x.n x.c, .int .i64 (x.pl : Int)] 75)).heap.size := by simp
  have HXB := Lib.hid (And.intro hxb hbx)
  have H0 := Lib.hid h
  have hL0 := hL.below hbw
  have h0 := h.later hbw
  generalize hWE : w.alloc (.cells #[.slice x.A x.n x.c, .int .i64 (x.pl : Int)] 75) = W at *
  have H := Lib.hid h0
  have hg := h0.blk.lt
  have k1 := h0.blk.cell 1
  have k2 := h0.blk.cell 2
  simp at k1 k2
  obtain ⟨A, c, rfl, hc1, hc2⟩ := h0.own.lv.form
  rw [List.length_map] at H k1 hc1 H0
  have HLL := Lib.hid hL0
  have HD := Lib.hid hD
  have HH := Lib.hid hH
  have HO := Lib.hid H.out.own
  rw [show (a.map (tuC krCT)).length = a.length from List.length_map ..] at *
  clear h h0 hL hL0 hD hH
  go_enter Try.func36, Try.ntmps36
  go_wp2_with fail
  have HWE := Lib.hid hWE
  clear hWE
  have hS : Hid (∀ u, Apt (fun z => (Value.slice A a.length c).ownBlock = some z) W u → u.cell? ⟨g, 1, none⟩ = some (.slice A a.length c) ∧ u.cell? ⟨g, 2, none⟩ = some (.int .u64 (p : Int)) ∧ True
      ∧ u.cell? ⟨w.heap.size, 0, none⟩ = some (.slice x.A x.n x.c) ∧ u.cell? ⟨w.heap.size, 1, none⟩ = some (.int .i64 (x.pl : Int))
      ) := Lib.hid fun u hu => by
    have hgb : ¬ (Value.slice A a.length c).ownBlock = some g := fun e => (H.out.Fv g e).2 rfl
    have hwb : ¬ (Value.slice A a.length c).ownBlock = some w.heap.size := fun e => by
      have := H0.out.lt _ (H.out.Fv _ e).1
      omega
    refine ⟨(World.cell?_of_block (hu.block g hg hgb)).trans k1, (World.cell?_of_block (hu.block g hg hgb)).trans k2, trivial
      , ?_, ?_
      ⟩
    all_goals exact (World.cell?_of_block (hu.block w.heap.size HXB.out.2 hwb)).trans (HXB.out.1.cell _)
  have HAb : ∀ z, (Value.slice A a.length c).ownBlock = some z → F z := fun z hz => (H.out.Fv z hz).1
  have HABad := Lib.hid HAb
  clear HAb k1 k2
  refine wp_region_mix3 15 [(0, 0), (1, 0), (2, 0), (3, 0), (4, 0), (5, 0), (6, 0), (7, 0), (8, 0), (9, 0), (10, 0), (11, 1), (12, 1), (13, 0), (14, 0), (15, 2)] (fun u => Apt (fun z => (Value.slice A a.length c).ownBlock = some z) W u) (by kernel_rfl) (by kernel_rfl) (by decide +kernel) rfl (Apt.of_below (Below.refl _ _).drew) ?_
  repeat
    (refine mix3_read (o := ⟨_, _, _, _, _, _⟩) (v := ?_) rfl (by rfl) (fun w' hU => ?_) ?_
     rotate_left
     have hU' := hS.out _ hU
     obtain ⟨hU1, hU2, hU3⟩ := hU'
     go_simp
     with_reducible rfl
     try simp only [Act.put, List.setIfInBounds_toArray, List.set_cons_zero, List.set_cons_succ])
  refine mix3_step (o := ⟨_, _, _, _, _, _⟩) rfl (fun K hK => ?_)
  go_simp
  have ha0 : Below W.heap.size W (W.alloc (.cells #[.slice x.A x.n x.c, .int .i64 (x.pl : Int), .int .u64 (p : Int)] 96)).drew := ((Below.refl W.heap.size W).alloc (Nat.le_refl _) _).drew
  refine hK.out _ _ (Apt.of_below ha0) ?_
  clear hK K
  try simp only [Act.put, List.setIfInBounds_toArray, List.set_cons_zero, List.set_cons_succ]
  refine mix3_step (o := ⟨_, _, _, _, _, _⟩) rfl (fun K hK => ?_)
  refine step_append_elems hpT_KrT rfl _ _ rfl rfl (HO.out.below ha0) rfl (Lv.lit1 W.drew (tuC krCT (x, p)) 96) (by intro y hy; simp at hy; subst hy; simp [tuC, krCT, Value.oneCell']) (by simp only [maxLen, List.length_map, List.length_singleton]; omega) (by simp only [List.length_map, List.length_singleton]; omega) (Nat.zero_le _) ?_
  intro v6 w6 ho6 hg6 hv6
  replace hg6 : (W.alloc (.cells #[.slice x.A x.n x.c, .int .i64 (x.pl : Int), .int .u64 (p : Int)] 96)).drew.grownBy w6 (Value.slice A a.length c).ownBlock := hg6
  have hz1 : (W.alloc (.cells #[.slice x.A x.n x.c, .int .i64 (x.pl : Int), .int .u64 (p : Int)] 96)).drew.heap.size = W.heap.size + 1 := by simp
  replace hv6 : v6.ownBlock = (Value.slice A a.length c).ownBlock ∨ v6.ownBlock = some (W.alloc (.cells #[.slice x.A x.n x.c, .int .i64 (x.pl : Int), .int .u64 (p : Int)] 96)).drew.heap.size := hv6
  rw [hz1] at hv6
  have hap6 : Apt (fun z => (Value.slice A a.length c).ownBlock = some z) W w6 := (Apt.of_below ha0).trans (Apt.of_grown hg6 fun z hz => hz)
  refine hK.out _ _ hap6 ?_
  clear hK K
  try simp only [Act.put, List.setIfInBounds_toArray, List.set_cons_zero, List.set_cons_succ]
  repeat
    (refine mix3_read (o := ⟨_, _, _, _, _, _⟩) (v := ?_) rfl (by rfl) (fun w' hU => ?_) ?_
     rotate_left
     have hU' := hS.out _ hU
     obtain ⟨hU1, hU2, hU3⟩ := hU'
     go_simp
     with_reducible rfl
     try simp only [Act.put, List.setIfInBounds_toArray, List.set_cons_zero, List.set_cons_succ])
  have hB6 : Blk w6 g 94 #[fv, .slice A a.length c, .int .u64 (p : Int)] := (hap6.block g hg fun e => (H.out.Fv g e).2 rfl).trans H.out.blk
  have hv6g : ∀ z, v6.ownBlock = some z → z ≠ g := fun z hz e => by
    subst e
    rcases hv6 with h | h
    · exact (H.out.Fv z (h.symm.trans hz)).2 rfl
    · rw [hz] at h
      injection h with h
      omega
  have ho6' : OwnL 3 w6 0 96 v6 ((a ++ [(x, p)]).map (tuC krCT)) := by
    rw [List.map_append]
    exact ho6
  obtain ⟨A6, c6, hv6f, hc61, hc62⟩ := ho6'.lv.form
  rw [List.length_map, List.length_append, List.length_singleton] at hv6f hc61
  subst hv6f
  have k61 := hB6.cell 1
  have k62 := hB6.cell 2
  have f61 := hB6.frozen 1
  have f62 := hB6.frozen 2
  simp at k61 k62
  have hB7 : Blk (w6.setCell ⟨g, 1, none⟩ (.slice A6 (a.length + 1) c6)) g 94 #[fv, .slice A6 (a.length + 1) c6, .int .u64 (p : Int)] := by
    have := Blk.set_ hB6 1 (.slice A6 (a.length + 1) c6)
    simp only [List.setIfInBounds_toArray, List.set_cons_succ, List.set_cons_zero] at this
    exact this
  have hB8 : Blk ((w6.setCell ⟨g, 1, none⟩ (.slice A6 (a.length + 1) c6)).setCell ⟨g, 2, none⟩ (.int .u64 ((p + 1 : Nat) : Int))) g 94 #[fv, .slice A6 (a.length + 1) c6, .int .u64 ((p + 1 : Nat) : Int)] := by
    have := Blk.set_ hB7 2 (.int .u64 ((p + 1 : Nat) : Int))
    simp only [List.setIfInBounds_toArray, List.set_cons_succ, List.set_cons_zero] at this
    exact this
  rw [show ((p + 1 : Nat) : Int) = (p : Int) + 1 by omega] at hB8
  have hgs7 := grown_set w6 g 1 (.slice A6 (a.length + 1) c6)
  have hgs8 := grown_set (w6.setCell ⟨g, 1, none⟩ (.slice A6 (a.length + 1) c6)) g 2 (.int .u64 ((p : Int) + 1))
  have hap8 : Apt F W ((w6.setCell ⟨g, 1, none⟩ (.slice A6 (a.length + 1) c6)).setCell ⟨g, 2, none⟩ (.int .u64 ((p : Int) + 1))) := (hap6.mono fun z _ hz => HABad.out z hz).trans (Apt.of_grown (grown_trans hgs7 hgs8) fun z hz => by
    injection hz with hz
    subst hz
    exact H.out.Fg)
  have hno : ∀ z, (F z ∨ (Value.slice A6 (a.length + 1) c6).ownBlock = some z) → F z ∨ W.heap.size ≤ z := fun z hz => hz.elim .inl fun h => by
    rcases hv6 with h1 | h1
    · exact .inl (HABad.out z (h1.symm.trans h))
    · rw [h] at h1
      injection h1 with h1
      exact .inr (by omega)
  have hm8 : HpM 94 96 3 krCT ((w6.setCell ⟨g, 1, none⟩ (.slice A6 (a.length + 1) c6)).setCell ⟨g, 2, none⟩ (.int .u64 ((p : Int) + 1))) (fun z => F z ∨ (Value.slice A6 (a.length + 1) c6).ownBlock = some z) g fv (p + 1) (a ++ [(x, p)]) (.slice A6 (a.length + 1) c6) :=
    ⟨fun z hz => Nat.lt_of_lt_of_le (hz.elim (fun h => Nat.lt_of_lt_of_le (H.out.lt z h) hap6.size) fun h => ho6'.lt z h) (grown_trans hgs7 hgs8).size, .inl H.out.Fg, hB8, ho6'.kept (grown_trans hgs7 hgs8) (by
      cases hq : (Value.slice A6 (a.length + 1) c6).ownBlock with
      | none => exact .inl rfl
      | some z => exact .inr fun e => hv6g z hq (by injection e)), fun z hz => ⟨.inr hz, hv6g z hz⟩⟩
  have HM8 := Lib.hid hm8
  have HAp8 := Lib.hid hap8
  have HNo := Lib.hid hno
  have hrise := hpRise_KrT hm8 hR (HLL.out.go hap8 hno) (fun z hz => by
    rcases List.mem_append.1 hz with h | h
    · exact HD.out z h
    · simp at h
      subst h
      exact hx) (by rw [List.length_append, List.length_singleton, Nat.add_sub_cancel]; exact HH.out.push _) (by simp) (by rw [List.length_append, List.length_singleton]; omega)
  have k72 := hB7.cell 2
  have f72 := hB7.frozen 2
  have k81 := hB8.cell 1
  simp at k72 k81
  clear ho6 hg6 hv6 hap6 hB6 hv6g ho6' hB7 hB8 hgs7 hgs8 hap8 hno hm8 ha0 hz1
  refine mix3_store (o := ⟨_, _, _, _, _, _⟩) rfl (fun K hK => ?_)
  go_simp
  refine hK.out _ _ ?_
  clear hK K
  refine mix3_done ?_
  generalize w6.setCell ⟨g, 1, none⟩ (.slice A6 (a.length + 1) c6) = w7 at *
  go_wp2_with fail
  refine hrise.mono ?_
  rintro e w9 ⟨rfl, b, hm9, hap9, hperm, hheap⟩
  go_wp2_with fail
  refine bodyPost_end (results_none rfl _ _ _) rfl ?_
  have hgo := (Goes.mk HAp8.out HNo.out).trans ⟨hap9, fun _ => .inl⟩
  replace hgo := (Goes.of_below HBW.out).trans hgo
  exact ⟨rfl, b, _, _, hm9, hgo.apt, hgo.new, hperm, hheap⟩
set_option maxHeartbeats 1600000 in
theorem hpPop_KrT {w : World} {F : Nat → Prop} {g p : Nat} {fv v : Value} {R : KrT → KrT → Bool} {D : KrT → Prop} {x : KrT} {s : Nat} {a : List (Turn KrT)} (h : HpM 94 96 3 krCT w F g fv p a v) (hR : WeakO R D) (hL : Keep F (LessAt krV fv R D) w) (hD : ∀ z ∈ a, D z.1) (hx : a[0]? = some (x, s)) (hH : HeapOk (turnB R) a) (hl : a.length ≤ 1000001) :
    Calls Try.prog 38 #[.pointer (some ⟨g, 0, none⟩)] w fun e w' => e = .returned (.tuple #[.agg #[.slice x.A x.n x.c, .int .i64 (x.pl : Int)], .bool true]) ∧ ∃ a' v', HpM 94 96 3 krCT w' F g fv p a' v' ∧ Apt F w w' ∧ ((x, s) :: a').Perm a ∧ HeapOk (turnB R) a' := by
  have H := Lib.hid h
  have HR := Lib.hid hR
  have HL := Lib.hid hL
  have HD := Lib.hid hD
  have HX := Lib.hid hx
  have HH := Lib.hid hH
  have hpos := (List.getElem?_eq_some_iff.1 hx).1
  obtain ⟨n, hn⟩ : ∃ n, a.length = n + 1 := ⟨a.length - 1, by omega⟩
  obtain ⟨⟨y, t⟩, hy⟩ : ∃ z, a[n]? = some z := ⟨_, List.getElem?_eq_getElem (by omega)⟩
  have HY := Lib.hid hy
  have HN := Lib.hid hn
  have hnn : n ≤ 1000000 := by omega
  have hg := h.blk.lt
  rcases h.form with ⟨_, e⟩ | ⟨q, c, rfl, hc1, hc2, hF, hq, hfz⟩
  · rw [e] at hx
    cases hx
  have HFq := Lib.hid hF
  rw [hn] at H hc1
  clear h hR hL hD hx hy hH hpos hn hl hF hfz
  have HBW : Hid (Below w.heap.size w (w.alloc (.cells #[.slice none 0 0, .int .i64 0] 75))) := Lib.hid ((Below.refl _ w).alloc (Nat.le_refl _) _)
  have HZ0 : Hid (Blk (w.alloc (.cells #[.slice none 0 0, .int .i64 0] 75)) w.heap.size 75 #[.slice none 0 0, .int .i64 0] ∧ w.heap.size < (w.alloc (.cells #[.slice none 0 0, .int .i64 0] 75)).heap.size) := Lib.hid ⟨Blk.new _ _ _, by simp⟩
  go_enter Try.func38, Try.ntmps38
  go_wp2_with fail
  generalize hWE : w.alloc (.cells #[.slice none 0 0, .int .i64 0] 75) = W at *
  have HWE := Lib.hid hWE
  clear hWE
  refine (hpPeek_KrT (H.out.later HBW.out) HX.out).mono ?_
  rintro e w1 ⟨rfl, hb1⟩
  have hxb : Hid (Blk (w1.alloc (.cells #[.slice x.A x.n x.c, .int .i64 (x.pl : Int)] 75)) w1.heap.size 75 #[.slice x.A x.n x.c, .int .i64 (x.pl : Int)] ∧ w1.heap.size < (w1.alloc (.cells #[.slice x.A x.n x.c, .int .i64 (x.pl : Int)] 75)).heap.size) := Lib.hid ⟨Blk.new _ _ _, by simp⟩
  have HB2 : Hid (Below W.heap.size W (w1.alloc (.cells #[.slice x.A x.n x.c, .int .i64 (x.pl : Int)] 75))) := Lib.hid (hb1.alloc hb1.size _)
  have k1 := ((H.out.later HBW.out).later HB2.out).blk.cell 1
  simp at k1
  go_wp2_with fail
  generalize hw2 : w1.alloc (.cells #[.slice x.A x.n x.c, .int .i64 (x.pl : Int)] 75) = w2 at *
  have hb1' := Lib.hid (Nat.le_trans HBW.out.size hb1.size)
  have HM2 := Lib.hid ((H.out.later HBW.out).later HB2.out)
  have hw2' := Lib.hid hw2
  clear hw2
  have hg2 := HM2.out.blk.lt
  have HS : Hid (∀ u, Below w2.heap.size w2 u → u.cell? ⟨g, 1, none⟩ = some (.slice (some ⟨q, 0, none⟩) (n + 1) c) ∧ (True ∧ u.cell? ⟨q, n * 3, none⟩ = some (.slice y.A y.n y.c) ∧ u.cell? ⟨q, n * 3 + 1, none⟩ = some (.int .i64 (y.pl : Int)) ∧ u.cell? ⟨q, n * 3 + 2, none⟩ = some (.int .u64 (t : Int)))) := Lib.hid fun u hu => by
    have c1 := (HM2.out.later hu).cell (by omega) rfl HY.out
    exact ⟨(hu.cell (p := ⟨g, 1, none⟩) hg2).trans k1, ⟨trivial, by simpa using c1 0 _ rfl, by simpa using c1 1 _ rfl, by simpa using c1 2 _ rfl⟩⟩
  have hc0 := HM2.out.cell (by omega) rfl HX.out
  have HT : Hid (True ∧ w2.cell? ⟨q, 0, none⟩ = some (.slice x.A x.n x.c) ∧ w2.cell? ⟨q, 1, none⟩ = some (.int .i64 (x.pl : Int)) ∧ w2.cell? ⟨q, 2, none⟩ = some (.int .u64 (s : Int))) := Lib.hid ⟨trivial, by simpa using hc0 0 _ rfl, by simpa using hc0 1 _ rfl, by simpa using hc0 2 _ rfl⟩
  obtain ⟨_, ⟨fx0, fx1, fx2⟩⟩ := HT.out
  have hfz := fun j => HM2.out.fz rfl j
  have s1 := HM2.out.own.all3 (i := 0) (by rw [List.length_map, HN.out]; omega) (.slice y.A y.n y.c) (.int .i64 (y.pl : Int)) (.int .u64 (t : Int))
  simp only [Nat.zero_mul, Nat.zero_add] at s1
  have HG3 : Hid (w2.grownBy (((w2.setCell ⟨q, 0, none⟩ (.slice y.A y.n y.c)).setCell ⟨q, 1, none⟩ (.int .i64 (y.pl : Int))).setCell ⟨q, 2, none⟩ (.int .u64 (t : Int))).drew (some q)) := Lib.hid (grown_drewN s1.2 1)
  have HO3 : Hid (OwnL 3 (((w2.setCell ⟨q, 0, none⟩ (.slice y.A y.n y.c)).setCell ⟨q, 1, none⟩ (.int .i64 (y.pl : Int))).setCell ⟨q, 2, none⟩ (.int .u64 (t : Int))).drew 0 96 (.slice (some ⟨q, 0, none⟩) (n + 1) c) ((a.map (tuC krCT)).set 0 (tuC krCT (y, t)))) := Lib.hid s1.1
  have a0 : (0 : Int) ≤ (n : Int) := by omega
  have a1 : (n : Int) < (n : Int) + 1 := by omega
  have a2 : (0 : Int) < (n : Int) + 1 := by omega
  clear s1 hc0 hb1
  refine wp_region_mix3 12 [(0, 0), (1, 0), (2, 0), (3, 0), (4, 0), (5, 0), (6, 0), (7, 0), (8, 0), (9, 0), (10, 0), (11, 0), (12, 2)] (fun u => Below w2.heap.size w2 u) (by kernel_rfl) (by kernel_rfl) (by decide +kernel) rfl (Below.refl _ _).drew ?_
  repeat
    (refine mix3_read (o := ⟨_, _, _, _, _, _⟩) (v := ?_) rfl (by rfl) (fun w' hU => ?_) ?_
     rotate_left
     obtain ⟨hU1, hU2⟩ := HS.out _ hU
     go_simp
     with_reducible rfl
     try simp only [Act.put, List.setIfInBounds_toArray, List.set_cons_zero, List.set_cons_succ])
  refine mix3_store (o := ⟨_, _, _, _, _, _⟩) rfl (fun K hK => ?_)
  go_simp
  refine hK.out _ _ ?_
  clear hK K
  refine mix3_done ?_
  generalize hw3 : (((w2.setCell ⟨q, 0, none⟩ (.slice y.A y.n y.c)).setCell ⟨q, 1, none⟩ (.int .i64 (y.pl : Int))).setCell ⟨q, 2, none⟩ (.int .u64 (t : Int))).drew = w3 at *
  have hgq : some g ≠ some q := fun e => HFq.out.2 (by injection e with e; exact e.symm)
  have hB3 := HM2.out.blk.grown HG3.out hgq
  obtain ⟨w4, hclr, ho4, hg4⟩ := run_clear_own hpT_KrT (z := .agg #[.slice none 0 0, .int .i64 0, .int .u64 0]) (by kernel_rfl) (by simp [Value.cells, Value.oneCell']) HO3.out n (by omega)
  have hn1 : n + 1 - n = 1 := by omega
  rw [hn1] at hclr
  clear hn1
  have hB4 := hB3.grown hg4 hgq
  have hB5 := Blk.set_ hB4 1 (.slice (some ⟨q, 0, none⟩) n c)
  simp only [List.setIfInBounds_toArray, List.set_cons_succ, List.set_cons_zero] at hB5
  have hgs := grown_set w4 g 1 (.slice (some ⟨q, 0, none⟩) n c)
  have k31 := hB3.cell 1
  have k41 := hB4.cell 1
  have f41 := hB4.frozen 1
  have k51 := hB5.cell 1
  simp at k31 k41 k51
  have hsl := fun u => run_slice_end hpT_KrT (by kernel_rfl) q (n + 1) c n (by omega) hc1 u
  have hsu := fun u => run_slice_upto hpT_KrT (by kernel_rfl) (A := some (⟨q, 0, none⟩ : Addr)) n (show n ≤ n + 1 by omega) hc1 u
  have hap25 : Apt F w2 (w4.setCell ⟨g, 1, none⟩ (.slice (some ⟨q, 0, none⟩) n c)) := (Apt.of_grown (grown_trans HG3.out hg4) fun z hz => by
    injection hz with hz
    subst hz
    exact HFq.out.1).trans (Apt.of_grown hgs fun z hz => by
    injection hz with hz
    subst hz
    exact H.out.Fg)
  have hap5 : Apt F W (w4.setCell ⟨g, 1, none⟩ (.slice (some ⟨q, 0, none⟩) n c)) := (Apt.of_below HB2.out).trans hap25
  have hm5 : HpM 94 96 3 krCT (w4.setCell ⟨g, 1, none⟩ (.slice (some ⟨q, 0, none⟩) n c)) F g fv p ((a.set 0 (y, t)).take n) (.slice (some ⟨q, 0, none⟩) n c) :=
    ⟨fun z hz => Nat.lt_of_lt_of_le (H.out.lt z hz) (Nat.le_trans HBW.out.size hap5.size), H.out.Fg, hB5, by
      have := ho4.kept hgs (.inr fun e => HFq.out.2 (by injection e))
      rw [← List.map_set, ← List.map_take] at this
      exact this, fun z hz => by
      have : q = z := by simpa [Value.ownBlock] using hz
      subst this
      exact HFq.out⟩
  have hD5 : ∀ z ∈ (a.set 0 (y, t)).take n, D z.1 := fun z hz => by
    rcases List.mem_or_eq_of_mem_set (List.mem_of_mem_take hz) with h | h
    · exact HD.out z h
    · subst h
      exact HD.out _ (List.mem_of_getElem? HY.out)
  have hsink := hpSink_KrT hm5 HR.out ((HL.out.below HBW.out).go hap5 fun _ h => .inl h) hD5 (HH.out.behead HN.out) (by omega)
  have HAp5 := Lib.hid hap5
  have HAp25 := Lib.hid hap25
  have HPm := Lib.hid (behead_perm HN.out HX.out HY.out)
  clear hB3 hB4 hB5 hgs hap5 hap25 hm5 hD5 ho4 hg4 hw3 k1 fx0
  go_wp2_with fail
  refine hsink.mono ?_
  rintro e w6 ⟨rfl, b, hm6, hap6, hperm, hheap⟩
  have HGo := Lib.hid ((Goes.of_below HBW.out).trans ((Goes.mk HAp5.out fun _ => .inl).trans (Goes.mk hap6 fun _ => .inl)))
  have HPe := Lib.hid ((hperm.cons (x, s)).trans HPm.out)
  have HHe := Lib.hid hheap
  have HM6 := Lib.hid hm6
  have hr0 : Blk w6 w.heap.size 75 #[.slice none 0 0, .int .i64 0] := ((HAp5.out.trans hap6).block _ HZ0.out.2 (fun e => by have := H.out.lt _ e; omega)).trans HZ0.out.1
  have hr1 : Blk w6 w1.heap.size 75 #[.slice x.A x.n x.c, .int .i64 (x.pl : Int)] := ((HAp25.out.trans hap6).block _ hxb.out.2 (fun e => by have := H.out.lt _ e; have := HBW.out.size; have := hb1'.out; omega)).trans hxb.out.1
  have HR0 := Lib.hid hr0
  have c0 := fun j => hr0.cell j
  have c1 := fun j => hr1.cell j
  have f0 := fun j => hr0.frozen j
  obtain ⟨_, ⟨gr0, gr1⟩⟩ : True ∧ w6.cell? ⟨w1.heap.size, 0, none⟩ = some (.slice x.A x.n x.c) ∧ w6.cell? ⟨w1.heap.size, 1, none⟩ = some (.int .i64 (x.pl : Int)) := ⟨trivial, hr1.cell _, hr1.cell _⟩
  obtain ⟨_, ⟨gz0, gz1⟩⟩ : True ∧ w6.cell? ⟨w.heap.size, 0, none⟩ = some (.slice none 0 0) ∧ w6.cell? ⟨w.heap.size, 1, none⟩ = some (.int .i64 0) := ⟨trivial, hr0.cell _, hr0.cell _⟩
  clear hsink hperm hheap hm6 hap6 hr0 hr1 c0 c1
  go_wp2_with fail
  have hBg := (And.intro ((And.intro (HR0.out.set_ 0 (.slice x.A x.n x.c)) (grown_set w6 w.heap.size 0 (.slice x.A x.n x.c))).1.set_ 1 (.int .i64 (x.pl : Int))) (grown_trans (And.intro (HR0.out.set_ 0 (.slice x.A x.n x.c)) (grown_set w6 w.heap.size 0 (.slice x.A x.n x.c))).2 (grown_set _ w.heap.size 1 (.int .i64 (x.pl : Int)))))
  simp only [List.setIfInBounds_toArray, List.set_cons_zero, List.set_cons_succ] at hBg
  obtain ⟨hB7, hg7⟩ := hBg
  have hm7 := HM6.out.keep (Apt.of_grown hg7 fun z hz => by injection hz with hz; subst hz; exact fun h => by have := H.out.lt _ h; omega)
  have ha7 := HGo.out.apt.grown_new hg7 (Nat.le_refl _)
  have HH7 := Lib.hid (And.intro hm7 ha7)
  clear hm7 ha7 hg7
  refine bodyPost_ret (v := .tuple #[.agg #[.slice x.A x.n x.c, .int .i64 (x.pl : Int)], .bool true]) (by have c := hB7.cell; simp [results, go_sem, c]; try rfl) rfl ?_
  exact ⟨rfl, b, _, HH7.out.1, HH7.out.2, HPe.out, HHe.out⟩
set_option maxHeartbeats 800000 in
theorem hpPopNo_KrT {w : World} {F : Nat → Prop} {g p : Nat} {fv v : Value} (h : HpM 94 96 3 krCT w F g fv p [] v) :
    Calls Try.prog 38 #[.pointer (some ⟨g, 0, none⟩)] w fun e w' => e = .returned (.tuple #[.agg #[.slice none 0 0, .int .i64 0], .bool false]) ∧ Below w.heap.size w w' := by
  have H := Lib.hid h
  clear h
  have HB1 : Hid (Below w.heap.size w (w.alloc (.cells #[.slice none 0 0, .int .i64 0] 75))) := Lib.hid ((Below.refl _ w).alloc (Nat.le_refl _) _)
  have HX1 := Lib.hid (And.intro (Blk.new w 75 #[.slice none 0 0, .int .i64 0]) (show w.heap.size < (w.alloc (.cells #[.slice none 0 0, .int .i64 0] 75)).heap.size by simp))
  go_enter Try.func38, Try.ntmps38
  go_wp2_with fail
  generalize w.alloc (.cells #[.slice none 0 0, .int .i64 0] 75) = W at *
  refine (hpPeekNo_KrT (H.out.later HB1.out)).mono ?_
  rintro e w1 ⟨rfl, hb1⟩
  have HB2 : Hid (Below w.heap.size w (w1.alloc (.cells #[.slice none 0 0, .int .i64 0] 75))) := Lib.hid ((HB1.out.trans (hb1.mono HB1.out.size)).alloc (Nat.le_trans HB1.out.size hb1.size) _)
  have hr0 := (HX1.out.1.below hb1 HX1.out.2).alloc (.cells #[.slice none 0 0, .int .i64 0] 75)
  have HR0 := Lib.hid hr0
  obtain ⟨_, ⟨gz0, gz1⟩⟩ : True ∧ (w1.alloc (.cells #[.slice none 0 0, .int .i64 0] 75)).cell? ⟨w.heap.size, 0, none⟩ = some (.slice none 0 0) ∧ (w1.alloc (.cells #[.slice none 0 0, .int .i64 0] 75)).cell? ⟨w.heap.size, 1, none⟩ = some (.int .i64 0) := ⟨trivial, hr0.cell _, hr0.cell _⟩
  have f0 := fun j => hr0.frozen j
  clear hb1 hr0
  go_wp2_with fail
  have hBg := (And.intro ((And.intro (HR0.out.set_ 0 (.slice none 0 0)) (grown_set (w1.alloc (.cells #[.slice none 0 0, .int .i64 0] 75)) w.heap.size 0 (.slice none 0 0))).1.set_ 1 (.int .i64 0)) (grown_trans (And.intro (HR0.out.set_ 0 (.slice none 0 0)) (grown_set (w1.alloc (.cells #[.slice none 0 0, .int .i64 0] 75)) w.heap.size 0 (.slice none 0 0))).2 (grown_set _ w.heap.size 1 (.int .i64 0))))
  simp only [List.setIfInBounds_toArray, List.set_cons_zero, List.set_cons_succ] at hBg
  obtain ⟨hB7, hg7⟩ := hBg
  have hb7 := Lib.hid (HB2.out.grown hg7 HB2.out.size fun z hz => by injection hz with hz; omega)
  clear hg7
  refine bodyPost_ret (v := .tuple #[.agg #[.slice none 0 0, .int .i64 0], .bool false]) (by have c := hB7.cell; simp [results, go_sem, c]; try rfl) rfl ?_
  exact ⟨rfl, hb7.out⟩
/-- the program's heap holds l, in the order of its pushes, of which there were n -/
def HPp_KrT (w : World) (F : Nat → Prop) (g : Nat) (fv : Value) (R : KrT → KrT → Bool) (n : Nat) (l : List KrT) : Prop := ∃ a v, HpM 94 96 3 krCT w F g fv n a v ∧ HeapOk (turnB R) a ∧ TurnsOf l n a
theorem heapK_KrT : HeapKrT HPp_KrT where
  thing g fv R n l := ⟨fun ⟨a, v, h1, h2, h3⟩ ha => ⟨a, v, h1.keep ha, h2, h3⟩, fun ⟨_, _, h1, _⟩ => h1.lt⟩
  new_ok w fn cap R := (hpNew_KrT w _ ⟨fn, cap, rfl⟩).mono fun e w' ⟨g, F, h1, h2, h3, h4⟩ => ⟨g, F, h1, ⟨[], _, h2, fun j x y _ hj => by simp at hj, TurnsOf.nil 0⟩, h3, h4⟩
  push {w F g fv R n D l x} h hR hL hD hx hl hn := by
    obtain ⟨a, v, h1, h2, h3⟩ := h
    refine (hpPush_KrT h1 hR hL (fun z hz => hD _ (h3.mem z hz).1) hx h2 (by rw [h3.len]; exact hl) hn).mono ?_
    rintro e w' ⟨rfl, a', v', F', h4, h5, h6, h7, h8⟩
    exact ⟨rfl, F', ⟨a', v', h4, h8, (h3.push x).perm h7⟩, h5, h6⟩
  pop_none {w F g fv R n} h := by
    obtain ⟨a, v, h1, h2, h3⟩ := h
    have ha : a = [] := List.eq_nil_of_length_eq_zero h3.len
    subst ha
    refine (hpPopNo_KrT h1).mono ?_
    rintro e w' ⟨rfl, hb⟩
    exact ⟨rfl, F, ⟨[], v, h1.later hb, h2, h3⟩, Apt.of_below hb, fun _ => .inl⟩
  pop {w F g fv R n D l i x} h hR hL hD hF hl := by
    obtain ⟨a, v, h1, h2, h3⟩ := h
    have hi := (List.getElem?_eq_some_iff.1 hF.at_).1
    obtain ⟨⟨y, s⟩, hr⟩ : ∃ z, a[0]? = some z := ⟨_, List.getElem?_eq_getElem (by rw [h3.len]; omega)⟩
    have hDa : ∀ z ∈ a, D z.1 := fun z hz => hD _ (h3.mem z hz).1
    refine (hpPop_KrT h1 hR hL hDa hr h2 (by rw [h3.len]; omega)).mono ?_
    rintro e w' ⟨rfl, a', v', h4, h5, h6, h7⟩
    obtain ⟨hxy, h8⟩ := h3.first hR hD (List.mem_of_getElem? hr) (fun z hz => by
      obtain ⟨j, hj⟩ := List.getElem?_of_mem hz
      exact h2.head (turnO hR) hDa hr j z hj) hF h6
    replace hxy : y = x := hxy
    subst hxy
    exact ⟨rfl, F, ⟨a', v', h4, h7, h8⟩, h5, fun _ => .inl⟩
  peek_none {w F g fv R n} h := by
    obtain ⟨a, v, h1, h2, h3⟩ := h
    have ha : a = [] := List.eq_nil_of_length_eq_zero h3.len
    subst ha
    refine (hpPeekNo_KrT h1).mono ?_
    rintro e w' ⟨rfl, hb⟩
    exact ⟨rfl, F, ⟨[], v, h1.later hb, h2, h3⟩, Apt.of_below hb, fun _ => .inl⟩
  peek {w F g fv R n D l i x} h hR hL hD hF hl := by
    obtain ⟨a, v, h1, h2, h3⟩ := h
    have hi := (List.getElem?_eq_some_iff.1 hF.at_).1
    obtain ⟨⟨y, s⟩, hr⟩ : ∃ z, a[0]? = some z := ⟨_, List.getElem?_eq_getElem (by rw [h3.len]; omega)⟩
    have hDa : ∀ z ∈ a, D z.1 := fun z hz => hD _ (h3.mem z hz).1
    refine (hpPeek_KrT h1 hr).mono ?_
    rintro e w' ⟨rfl, hb⟩
    have h0 : 0 < a.length := (List.getElem?_eq_some_iff.1 hr).1
    obtain ⟨hxy, _⟩ := h3.first hR hD (List.mem_of_getElem? hr) (fun z hz => by
      obtain ⟨j, hj⟩ := List.getElem?_of_mem hz
      exact h2.head (turnO hR) hDa hr j z hj) hF (a1 := a.tail) (by
        match a, hr with
        | b :: t, hr => simp at hr; subst hr; exact List.Perm.refl _)
    replace hxy : y = x := hxy
    subst hxy
    exact ⟨rfl, F, ⟨a, v, h1.later hb, h2, h3⟩, Apt.of_below hb, fun _ => .inl⟩
  len {w F g fv R n l} h _ := by
    obtain ⟨a, v, h1, h2, h3⟩ := h
    refine (hpLen_KrT h1).mono ?_
    rintro e w' ⟨rfl, rfl⟩
    exact ⟨by rw [h3.len], F, ⟨a, v, h1, h2, h3⟩, Apt.refl _ _, fun _ => .inl⟩
end Go.Proofs.Ytpanpebllapbcaa

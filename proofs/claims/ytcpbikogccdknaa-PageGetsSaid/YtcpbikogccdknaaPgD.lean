/-
  CONTRACTS of page.next and page.read. Conditions: what each says.
-/
import Derived.Test.YtcpbikogccdknaaPgC
import Derived.Test.YtcpbikogccdknaaSpanH
namespace Go.Proofs.Ytcpbikogccdknaa
open Go.RowKit Go.Maps
set_option maxRecDepth 100000

theorem slice_bytes_toK {P : Program} (w : World) {t e : TypeId} (HT : ByteT P t e) (he : P.elem t = e) {A : Option Addr} {c : Nat} {l : List UInt8} (hr : Rd w A (BV l)) (h2 : l.length ≤ c) (h3 : c ≤ 9223372036854775807) (k : IntKind) (hi : Nat) (h1 : hi ≤ l.length) (y : Int) (hy : y = (hi : Int)) :
    ∃ V, (∀ u : World, (Instr.slice t (.slice A l.length c) none (some (.int k y)) none).run P u = .ok V u) ∧ Bs w V (l.take hi) ∧ V.ownBlock = (Value.slice A l.length c).ownBlock := by
  subst hy
  obtain ⟨i, hi', hz, hs, hb⟩ := HT.info
  refine ⟨.slice A hi c, fun u => ?_, ?_, ?_⟩
  · rw [run_slice_h (P := P) (w := u) (t := t) (a := A) (len := l.length) (cap := c) (ht := by rw [he]; exact HT.under) k hi (by omega) (by omega)]
    simp [sizeOf, typeInfo, he, hi', hs, sliced]
    intro _
    cases A <;> simp [Addr.add]
  · have h := Bs.cut (p := 0) (k := hi) hr (by omega) h2 h3 A (fun a ha _ => by rw [ha]; simp [Addr.add])
    simpa using h
  · cases A <;> rfl
theorem slice_bytes_fromK {P : Program} (w : World) {t e : TypeId} (HT : ByteT P t e) (he : P.elem t = e) {A : Option Addr} {c : Nat} {l : List UInt8} (hr : Rd w A (BV l)) (h2 : l.length ≤ c) (h3 : c ≤ 9223372036854775807) (k : IntKind) (lo : Nat) (h1 : lo ≤ l.length) (x : Int) (hx : x = (lo : Int)) :
    ∃ V, (∀ u : World, (Instr.slice t (.slice A l.length c) (some (.int k x)) none none).run P u = .ok V u) ∧ Bs w V (l.drop lo) ∧ V.ownBlock = (Value.slice A l.length c).ownBlock := by
  subst hx
  obtain ⟨i, hi', hz, hs, hb⟩ := HT.info
  refine ⟨.slice (if c = lo then A else A.map (·.add lo)) (l.length - lo) (c - lo), fun u => ?_, ?_, ?_⟩
  · rw [run_slice_l (P := P) (w := u) (t := t) (a := A) (len := l.length) (cap := c) (ht := by rw [he]; exact HT.under) k lo (by omega) (by omega)]
    simp [sizeOf, typeInfo, he, hi', hs, sliced]
  · have h := Bs.cut (k := l.length - lo) (p := lo) hr (by omega) h2 h3 (if c = lo then A else A.map (·.add lo)) ?_
    · rw [List.take_of_length_le (by simp)] at h
      exact h
    · intro a ha hk
      subst ha
      rw [if_neg (by omega)]
      rfl
  · split <;> cases A <;> simp [Value.ownBlock, add_block]

/-- spans that can be put are of one list of bytes alone -/
theorem encS_inj (x y : List Sn) (hx : okS x) (hy : okS y) (h : encS x = encS y) : x = y := by
  have h1 := get_enc 65535 (by omega) x hx.1 hx.2.1 hx.2.2
  have h2 := get_enc 65535 (by omega) y hy.1 hy.2.1 hy.2.2
  rw [h, h2] at h1
  injection h1 with h1
  exact h1.symm

/-- the size of what stands next -/
def nxMany (b : List UInt8) : Nat := num ((b.drop 8).take 4)
theorem nxMany_lt (b : List UInt8) : nxMany b < 4294967296 := by
  have h := num_lt ((b.drop 8).take 4)
  have hl : ((b.drop 8).take 4).length ≤ 4 := by rw [List.length_take]; omega
  have hp := Nat.pow_le_pow_right (show 0 < 256 by omega) hl
  have : (256 : Nat) ^ 4 = 4294967296 := by decide
  unfold nxMany
  omega
theorem nxId_lt (b : List UInt8) : num (b.take 8) < 18446744073709551616 := by
  have h := num_lt (b.take 8)
  have hl : (b.take 8).length ≤ 8 := by rw [List.length_take]; omega
  have hp := Nat.pow_le_pow_right (show 0 < 256 by omega) hl
  have : (256 : Nat) ^ 8 = 18446744073709551616 := by decide
  omega
/-- what next tells -/
structure NextP (w0 w' : World) (base : Nat) (b : List UInt8) (x r : Value) (ok : Bool) : Prop where
  no : ok = false → (x = .agg #[.int .u64 0, .slice none 0 0] ∧ r = .slice none 0 0) ∧ (b.length < 12 ∨ b.length < 12 + nxMany b ∨ ∀ sp, okS sp → encS sp ≠ (b.drop 12).take (nxMany b))
  yes : ok = true → ∃ d sp, x = .agg #[.int .u64 (num (b.take 8)), d] ∧ Acc w' base d sp ∧ 12 + nxMany b ≤ b.length ∧ okS sp ∧ encS sp = (b.drop 12).take (nxMany b) ∧ Bs w0 r (b.drop (12 + nxMany b))

theorem spot2 {w u : World} {g base : Nat} {t : TypeId} {a0 a1 : Value} (hC : Blk u g t #[a0, a1]) (hB : Below base w u) (hbu : base ≤ u.heap.size) (hg : base ≤ g) (x y : Value) :
    ((u.setCell ⟨g, 0, none⟩ x).setCell ⟨g, 1, none⟩ y).cell? ⟨g, 0, none⟩ = some x ∧ ((u.setCell ⟨g, 0, none⟩ x).setCell ⟨g, 1, none⟩ y).cell? ⟨g, 1, none⟩ = some y ∧ Below base w ((u.setCell ⟨g, 0, none⟩ x).setCell ⟨g, 1, none⟩ y) ∧
      u.grownBy ((u.setCell ⟨g, 0, none⟩ x).setCell ⟨g, 1, none⟩ y) (some g) := by
  have hC4 := (hC.set_ 0 x).set_ 1 y
  have hg1 := grown_set u g 0 x
  have hg2 := grown_set (u.setCell ⟨g, 0, none⟩ x) g 1 y
  have c0 := hC4.cell 0
  have c1 := hC4.cell 1
  simp at c0 c1
  exact ⟨c0, c1, hB.grown (grown_trans hg1 hg2) hbu (by intro k hk; injection hk; omega), grown_trans hg1 hg2⟩

set_option maxHeartbeats 1600000 in
theorem pnext_any (v : Value) (b : List UInt8) (w0 w : World) (hB : Below w0.heap.size w0 w) (h : Bs w0 v b) (hl : b.length ≤ 140737488355328) :
    Calls Try.prog 51 #[v] w fun e w' => ∃ x r ok, e = .returned (.tuple #[x, r, .bool ok]) ∧ NextP w0 w' w.heap.size b x r ok ∧ Below w.heap.size w w' := by
  have HB0 := Lib.hid h
  have hv := h.below hB
  have HV := Lib.hid hv
  clear hv
  have hb0 : Below w.heap.size w (w.alloc (.cells #[.int .u64 0, .slice none 0 0] 49)) := (Below.refl _ _).alloc (Nat.le_refl _) _
  have hC0 := Blk.new w 49 #[.int .u64 0, .slice none 0 0]
  have hz0 : (w.alloc (.cells #[.int .u64 0, .slice none 0 0] 49)).heap.size = w.heap.size + 1 := by simp
  by_cases h12 : b.length < 12
  · have hbad : wordOk b (wNext b 0 false 8) (!wordOk b 0 false 8) 4 = false := by
      by_cases h8 : b.length < 8
      · simp [wordOk, wNext, isW]
        omega
      · have : (8 : Int) ≤ b.length := by omega
        simp [wordOk, wNext, isW, this]
        omega
    have HBAD := Lib.hid hbad
    clear hbad h
    go_enter Try.func51, Try.ntmps51
    go_wp2_with fail
    have hr := read_any v b _ (HV.out.below hb0)
    generalize w.alloc (.cells #[.int .u64 0, .slice none 0 0] 49) = W at *
    refine hr.mono ?_
    clear hr
    rintro e w1 ⟨rfl, hW1, hb1⟩
    rw [hz0] at hW1
    have hC1 := hC0.below hb1 hC0.lt
    have hB1 := hb0.trans (hb1.mono hb0.size)
    go_wp2_with fail
    refine (word_all _ v b _ _ _ _ hW1).mono ?_
    rintro e w2 ⟨rfl, hW2, hg2⟩
    have hC2 := hC1.grown hg2 (by intro e; injection e; omega)
    have hB2 := hB1.grown hg2 hB1.size (by intro k hk; injection hk; omega)
    go_wp2_with fail
    refine (word_all _ v b _ _ _ _ hW2).mono ?_
    rintro e w3 ⟨rfl, hW3, hg3⟩
    have hC3 := hC2.grown hg3 (by intro e; injection e; omega)
    have hB3 := hB2.grown hg3 hB2.size (by intro k hk; injection hk; omega)
    rw [HBAD.out] at hW3
    go_wp2_with fail
    refine (bad_true _ _ _ _ _ hW3).mono ?_
    rintro e w4 ⟨rfl, rfl⟩
    have c0 := hC3.cell 0
    have c1 := hC3.cell 1
    have f0 := hC3.frozen 0
    have f1 := hC3.frozen 1
    simp at c0 c1
    go_wp2_with fail
    obtain ⟨c0, c1, hB5, _⟩ := spot2 hC3 hB3 hB3.size (Nat.le_refl _) (.int .u64 0) (.slice none 0 0)
    generalize ((w3.setCell ⟨w.heap.size, 0, none⟩ (.int .u64 0)).setCell ⟨w.heap.size, 1, none⟩ (.slice none 0 0)) = w5 at *
    refine bodyPost_ret (v := .tuple #[.agg #[.int .u64 0, .slice none 0 0], .slice none 0 0, .bool false]) (by simp [results, Try.results51, go_sem, c0, c1]; try rfl) rfl ?_
    exact ⟨_, _, _, rfl, ⟨fun _ => ⟨⟨rfl, rfl⟩, .inl h12⟩, fun h => by cases h⟩, hB5⟩
  · obtain ⟨i, hi⟩ : ∃ i, i = num (b.take 8) := ⟨_, rfl⟩
    obtain ⟨m, hm⟩ : ∃ m, m = nxMany b := ⟨_, rfl⟩
    have hi2 : num ((b.drop 0).take (Int.toNat 8)) = i := by rw [hi]; rfl
    have hm2 : num ((b.drop (0 + Int.toNat 8)).take (Int.toNat 4)) = m := by rw [hm]; rfl
    have hil : i < 18446744073709551616 := by rw [hi]; exact nxId_lt b
    have hml : m < 4294967296 := by rw [hm]; exact nxMany_lt b
    have ok8 : wordOk b 0 false 8 = true := by simp [wordOk, isW]; omega
    have ok4 : wordOk b (0 + Int.toNat 8) false 4 = true := by simp [wordOk, isW]; omega
    have HI := Lib.hid hi
    have HM := Lib.hid hm
    have HI2 := Lib.hid hi2
    have HM2 := Lib.hid hm2
    have HIL := Lib.hid hil
    have OK8 := Lib.hid ok8
    have OK4 := Lib.hid ok4
    clear hi hm hi2 hm2 ok8 ok4 hil
    obtain ⟨A, c, hv, hc1, hc2, hr⟩ := h
    obtain ⟨V1, hs1, hV1, _⟩ := slice_bytes_fromK (P := Try.prog) w0 byteT elemB hr hc1 hc2 .i64 12 (by omega) 12 rfl
    obtain ⟨A1, c1, rfl, hd1, hd2, hr1⟩ := hV1
    obtain ⟨q, hq⟩ : ∃ q, q = b.length - 12 := ⟨_, rfl⟩
    have hlr : (b.drop 12).length = q := by rw [List.length_drop, hq]
    rw [hlr] at hs1 hd1
    have hql : q ≤ 140737488355328 := by omega
    have hq1 : (b.length : Int) - ((0 + Int.toNat 8 + Int.toNat 4 : Nat) : Int) = q := by show (b.length : Int) - 12 = _; omega
    have HQ1 := Lib.hid hq1
    have HQ := Lib.hid hq
    clear hq hq1
    subst hv
    clear hr
    go_enter Try.func51, Try.ntmps51
    go_wp2_with fail
    have hr := read_any _ b _ (HV.out.below hb0)
    generalize w.alloc (.cells #[.int .u64 0, .slice none 0 0] 49) = W at *
    refine hr.mono ?_
    clear hr
    rintro e w1 ⟨rfl, hW1, hb1⟩
    rw [hz0] at hW1
    have hC1 := hC0.below hb1 hC0.lt
    have hB1 := hb0.trans (hb1.mono hb0.size)
    go_wp2_with fail
    refine (word_yes _ _ b _ _ _ _ hW1 OK8.out).mono ?_
    rintro e w2 ⟨rfl, hW2, hg2⟩
    rw [HI2.out]
    have hC2 := hC1.grown hg2 (by intro e; injection e; omega)
    have hB2 := hB1.grown hg2 hB1.size (by intro k hk; injection hk; omega)
    go_wp2_with fail
    refine (word_yes _ _ b _ _ _ _ hW2 OK4.out).mono ?_
    rintro e w3 ⟨rfl, hW3, hg3⟩
    rw [HM2.out]
    have hC3 := hC2.grown hg3 (by intro e; injection e; omega)
    have hB3 := hB2.grown hg3 hB2.size (by intro k hk; injection hk; omega)
    go_wp2_with fail
    refine (bad_false _ _ _ _ _ hW3).mono ?_
    rintro e w4 ⟨rfl, rfl⟩
    go_wp2_with fail
    refine (left_any _ _ _ _ _ _ hW3).mono ?_
    rintro e w4 ⟨rfl, n4, rfl⟩
    rw [HQ1.out]
    clear hW1 hW2 hg2 hg3 hC1 hC2 hb1 hB1 hB2
    by_cases hlt : q < m
    · have c0 := hC3.cell 0
      have c1 := hC3.cell 1
      have f0 := hC3.frozen 0
      have f1 := hC3.frozen 1
      simp at c0 c1
      clear hs1
      go_wp2_with fail
      obtain ⟨c0, c1, hB5, _⟩ := spot2 (hC3.drewN n4) (below_drewN hB3 n4) hB3.size (Nat.le_refl _) (.int .u64 0) (.slice none 0 0)
      generalize (((w3.drewN n4).setCell ⟨w.heap.size, 0, none⟩ (.int .u64 0)).setCell ⟨w.heap.size, 1, none⟩ (.slice none 0 0)) = w5 at *
      refine bodyPost_ret (v := .tuple #[.agg #[.int .u64 0, .slice none 0 0], .slice none 0 0, .bool false]) (by simp [results, Try.results51, go_sem, c0, c1]; try rfl) rfl ?_
      exact ⟨_, _, _, rfl, ⟨fun _ => ⟨⟨rfl, rfl⟩, .inr (.inl (by have := HQ.out; have := HM.out; omega))⟩, fun h => by cases h⟩, hB5⟩
    · have hmq : m ≤ q := by omega
      obtain ⟨V2, hs2, hV2, _⟩ := slice_bytes_toK (P := Try.prog) w0 byteT elemB hr1 (by rw [hlr]; exact hd1) hd2 .u64 m (by rw [hlr]; exact hmq) (m : Int) rfl
      obtain ⟨V3, hs3, hV3, _⟩ := slice_bytes_fromK (P := Try.prog) w0 byteT elemB hr1 (by rw [hlr]; exact hd1) hd2 .u64 m (by rw [hlr]; exact hmq) (m : Int) rfl
      rw [hlr] at hs2 hs3
      have HV3 := Lib.hid hV3
      have hG := sget_acc V2 ((b.drop 12).take m) (w3.drewN n4) ((hV2.below hB).below (below_drewN hB3 n4)) (by rw [List.length_take]; omega)
      clear hV2 hV3 hr1 hd1 hd2 hlt
      go_wp2_with fail
      refine hG.mono ?_
      clear hG
      rintro e w5 ⟨x, er, rfl, hG, hb5⟩
      have hC5 : Blk w5 w.heap.size 49 #[.int .u64 0, .slice none 0 0] := (hC3.drewN n4).below hb5 hC3.lt
      have hB5 := (below_drewN hB3 n4).trans (hb5.mono hB3.size)
      have c0 := hC5.cell 0
      have c1 := hC5.cell 1
      have f0 := hC5.frozen 0
      have f1 := hC5.frozen 1
      simp at c0 c1
      cases hg : getS nextMost ((b.drop 12).take m) with
      | error p =>
        obtain ⟨rfl, hSp⟩ := hG.no p hg
        obtain ⟨ge, rfl, _⟩ := hSp.is
        have HG := Lib.hid hg
        clear hg hG hs1 hs2 hs3
        go_wp2_with fail
        obtain ⟨c0, c1, hB6, _⟩ := spot2 hC5 hB5 hB5.size (Nat.le_refl _) (.int .u64 0) (.slice none 0 0)
        generalize ((w5.setCell ⟨w.heap.size, 0, none⟩ (.int .u64 0)).setCell ⟨w.heap.size, 1, none⟩ (.slice none 0 0)) = w6 at *
        refine bodyPost_ret (v := .tuple #[.agg #[.int .u64 0, .slice none 0 0], .slice none 0 0, .bool false]) (by simp [results, Try.results51, go_sem, c0, c1]; try rfl) rfl ?_
        refine ⟨_, _, _, rfl, ⟨fun _ => ⟨⟨rfl, rfl⟩, .inr (.inr fun sp hok e => ?_)⟩, fun h => by cases h⟩, hB6⟩
        rw [← HM.out] at e
        have h1 := get_enc nextMost (by decide) sp hok.1 hok.2.1 hok.2.2
        rw [e, HG.out] at h1
        cases h1
      | ok sp =>
        obtain ⟨rfl, hA⟩ := hG.yes sp hg
        have HG := Lib.hid hg
        obtain ⟨Ax, cx, hvx, _⟩ := hA.ss.form
        subst hvx
        clear hg hG
        go_wp2_with fail
        refine wp_region_mix [(0, false), (1, false), (2, false), (3, false), (4, false), (5, false), (6, true), (7, true), (8, true)] (fun _ => True) (by kernel_rfl) (by kernel_rfl) (by kernel_rfl) rfl trivial ?_
        repeat
          (refine mix_read (o := ⟨_, _, _, _, _, _⟩) (v := ?_) rfl (by rfl) (fun w' hS => ?_) ?_
           rotate_left
           go_simp
           with_reducible rfl
           try simp only [Act.put, List.setIfInBounds_toArray, List.set_cons_zero, List.set_cons_succ])
        refine mix_step (o := ⟨_, _, _, _, _, _⟩) rfl (fun K hK => ?_)
        go_simp
        refine hK.out _ _ trivial ?_
        clear hK K
        try simp only [Act.put, List.setIfInBounds_toArray, List.set_cons_zero, List.set_cons_succ]
        repeat
          (refine mix_step (o := ⟨_, _, _, _, _, _⟩) rfl (fun K hK => ?_)
           go_simp
           refine hK.out _ _ trivial ?_
           clear hK K
           try simp only [Act.put, List.setIfInBounds_toArray, List.set_cons_zero, List.set_cons_succ])
        refine mix_done ?_
        obtain ⟨c0, c1, hB6, hgr⟩ := spot2 hC5 hB5 hB5.size (Nat.le_refl _) (.int .u64 (i : Int)) (.slice Ax sp.length cx)
        have hsz : w.heap.size < (w3.drewN n4).heap.size + 1 := Nat.lt_of_lt_of_le hC3.lt (Nat.le_succ _)
        have hA6 := hA.grown hgr hsz
        have hB7 : Below w.heap.size w ((w5.setCell ⟨w.heap.size, 0, none⟩ (.int .u64 (i : Int))).setCell ⟨w.heap.size, 1, none⟩ (.slice Ax sp.length cx)).drew := hB6.drew
        have hA7 : Acc ((w5.setCell ⟨w.heap.size, 0, none⟩ (.int .u64 (i : Int))).setCell ⟨w.heap.size, 1, none⟩ (.slice Ax sp.length cx)).drew ((w3.drewN n4).heap.size + 1) (.slice Ax sp.length cx) sp := hA6.drewN 1
        have d0 : ((w5.setCell ⟨w.heap.size, 0, none⟩ (.int .u64 (i : Int))).setCell ⟨w.heap.size, 1, none⟩ (.slice Ax sp.length cx)).drew.cell? ⟨w.heap.size, 0, none⟩ = _ := c0
        have d1 : ((w5.setCell ⟨w.heap.size, 0, none⟩ (.int .u64 (i : Int))).setCell ⟨w.heap.size, 1, none⟩ (.slice Ax sp.length cx)).drew.cell? ⟨w.heap.size, 1, none⟩ = _ := c1
        generalize ((w5.setCell ⟨w.heap.size, 0, none⟩ (.int .u64 (i : Int))).setCell ⟨w.heap.size, 1, none⟩ (.slice Ax sp.length cx)).drew = w6 at *
        clear hB6 hA6 hs1 hs2 hs3 hA hW3 hC3 hC5 hB5 hb5 hB3 hgr f0 f1 c0 c1
        go_wp2_with fail
        refine bodyPost_ret (v := .tuple #[.agg #[.int .u64 (i : Int), .slice Ax sp.length cx], V3, .bool true]) (by simp [results, Try.results51, go_sem, d0, d1]; try rfl) rfl ?_
        have hmq' : 12 + m ≤ b.length := by have := HQ.out; omega
        obtain ⟨e1, e2, e3⟩ := enc_get nextMost _ sp HG.out
        refine ⟨_, _, _, rfl, ⟨(fun h => by cases h), fun _ => ⟨_, sp, by rw [HI.out], hA7.lower (by omega), by rw [← HM.out]; exact hmq', ⟨e1, fun s hs => ?_, e2⟩, by rw [← HM.out]; exact e3, ?_⟩⟩, hB7⟩
        · obtain ⟨k, hk⟩ := List.mem_iff_getElem?.1 hs
          exact hA7.ss.ok hk
        · have := HV3.out
          rw [List.drop_drop] at this
          rw [← HM.out]
          exact this

end Go.Proofs.Ytcpbikogccdknaa

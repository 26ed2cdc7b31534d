/-
  CONTRACT of tankardlaw15.Turned: a store with a block, and the document's, turned as told. Conditions: what it says; of the library's tables: Ld.
-/
import Derived.Test.YtfccfnbmmgfgcaaGreatDoorBkL
import Derived.Test.YtfccfnbmmgfgcaaGreatDoorRowDf
namespace Go.Proofs.YtfccfnbmmgfgcaaGreatDoor
open Go.RowKit
set_option maxRecDepth 100000

def pick15 (c n : Int) : Int := (if c < 0 then -(c + 1) else c) % n
set_option maxHeartbeats 800000 in
theorem pick15_any (c n : Int) (w : World) (h0 : -9223372036854775808 ≤ c) (h1 : c ≤ 9223372036854775807) (hn : 0 < n) (hn1 : n ≤ 1000) :
    Calls Tryz.prog 21 #[.int .i64 c, .int .i64 n] w fun e w' => e = .returned (.int .i64 (pick15 c n)) ∧ w = w' := by
  by_cases hc : c < 0
  · have hp : Hid (pick15 c n = -((c + 1).tmod n)) := Lib.hid (by rw [pick15, if_pos hc, ← Int.neg_tmod, Int.tmod_eq_emod_of_nonneg (by omega)])
    go_enter Tryz.func21, Tryz.ntmps21
    go_wp2_with fail
    go_ret
    exact ⟨ret_int hp.out.symm, rfl⟩
  · have hp : Hid (pick15 c n = c % n) := Lib.hid (by rw [pick15, if_neg hc])
    go_enter Tryz.func21, Tryz.ntmps21
    go_wp2_with fail
    go_ret
    exact ⟨ret_int hp.out.symm, rfl⟩
def turnS (m : Sm) (d : De) : Sm := if pick15 d.what 3 = 0 then (sPut m d.nm d.b).1 else if pick15 d.what 3 = 1 then (sDel m d.nm).1 else (sAlt m d.nm d.n (UInt8.ofNat d.x.toNat)).1
theorem turnS_left {m : Sm} (h : m.left = -1) (d : De) : (turnS m d).left = -1 := by
  unfold turnS
  split
  · exact sPut_left1 h
  · split
    · exact sDel_left1 h
    · exact sAlt_left1 h
theorem turnS_fine {m : Sm} {N : Nat} (h : m.fine N) (d : De) : (turnS m d).fine (N + 1) := by
  unfold turnS
  split
  · exact h.put _ _
  · split
    · exact h.del _
    · exact (h.alt _ _ _).more (by omega)

set_option maxHeartbeats 12800000 in
theorem Turned_any (id : Nat) (v : Value) (l : List Tn) (s : Sz) (tv : Value) (t : List De) (w : World) (h : Ts w v l) (ht : Ds w tv t) (hid : id < 18446744073709551616) (hll : l.length ≤ 140737488355328) (hL : Ld w) :
    Calls Tryz.prog 6 #[.int .u64 (id : Int), v, szV s, tv] w fun e w' =>
      (∃ g : Nat, e = .returned (.tuple #[.pointer (some ⟨g, 0, none⟩), .pointer none, .bool false]) ∧ Below w.heap.size w w') ∨
      ∃ (g gy : Nat) (F G : Nat → Prop) (m : Sm), e = .returned (.tuple #[.pointer (some ⟨g, 0, none⟩), .pointer (some ⟨gy, 0, none⟩), .bool true]) ∧ fewT l 200 = true ∧ m.fine 300 ∧ m.left = -1 ∧ W2 (fun _ => True) w w' (stA g m) F (stB gy gy m) G := by
  obtain ⟨pg, sh, bi, hs⟩ := s
  obtain ⟨A, c, rfl, hc1, hc2⟩ := h.form
  obtain ⟨At, ct, rfl, ht1, ht2⟩ := ht.form
  have H := Lib.hid h
  have HDS := Lib.hid ht
  have HLD := Lib.hid hL
  have HB0 : Hid (Below w.heap.size w (w.alloc (.cells #[.int .i64 pg, .int .i64 sh, .int .i64 bi, .int .i64 hs] 25))) := Lib.hid ((Below.refl _ _).alloc (Nat.le_refl _) _)
  have HS0 : Hid (Blk (w.alloc (.cells #[.int .i64 pg, .int .i64 sh, .int .i64 bi, .int .i64 hs] 25)) w.heap.size 25 #[.int .i64 pg, .int .i64 sh, .int .i64 bi, .int .i64 hs]) := Lib.hid (Blk.new _ _ _)
  have hFew := fun u (hu : Ts u (.slice A l.length c) l) => FewTraces_any _ l 200 u hu hll
  simp only [szV]
  clear h hL ht
  go_enter Tryz.func6, Tryz.ntmps6
  go_wp2_with fail
  revert HB0 HS0
  generalize w.alloc (.cells #[.int .i64 pg, .int .i64 sh, .int .i64 bi, .int .i64 hs] 25) = w0
  intro HB0 HS0
  refine (snew_ok 1000000 w0 (by omega) (by omega)).mono ?_
  rintro e w3 ⟨g, F, rfl, hP3, hb3, hF3⟩
  have HB3 := Lib.hid (HB0.out.trans (hb3.mono HB0.out.size))
  have HS3 := Lib.hid (HS0.out.below hb3 HS0.out.lt)
  have hlt0 := HS0.out.lt
  have hs0 := HB0.out.size
  have HW3 : Hid (PSt w3 F g ⟨1000000, -1, 0, []⟩ ∧ ∀ q, F q → w.heap.size < q) := Lib.hid ⟨hP3, fun q hq => by have := hF3 q hq; omega⟩
  clear hP3 hb3 hF3 hlt0 hs0 HB0 HS0
  go_wp2_with fail
  refine (hFew _ (H.out.below HB3.out)).mono ?_
  rintro e w4 ⟨rfl, rfl⟩
  clear hFew
  cases hf : fewT l 200 with
  | false =>
    clear hf
    go_wp2_with fail
    refine bodyPost_ret (v := .tuple #[.pointer (some ⟨g, 0, none⟩), .pointer none, .bool false]) (by simp [results, go_sem]; try rfl) rfl ?_
    exact .inl ⟨_, rfl, HB3.out⟩
  | true =>
    have HFW := Lib.hid hf
    obtain ⟨f1, f2, _⟩ := pfew (n := 200) hf
    clear hf
    by_cases h20 : 20 < t.length
    · go_wp2_with fail
      refine bodyPost_ret (v := .tuple #[.pointer (some ⟨g, 0, none⟩), .pointer none, .bool false]) (by simp [results, go_sem]; try rfl) rfl ?_
      exact .inl ⟨_, rfl, HB3.out⟩
    have hb4 : Below w3.heap.size w3 (w3.alloc (.cells #[.int .i64 1000000, .int .i64 (-1), .int .i64 0, .slice none 0 0] 60)) := (Below.refl _ _).alloc (Nat.le_refl _) _
    have hyF : ∀ q, yF w3.heap.size (.slice none 0 0) q → q = w3.heap.size := fun q hq => hq.elim (fun h => h) fun h => by cases h
    have HW4 : Hid (W2 (fun u => Blk u w.heap.size 25 #[.int .i64 pg, .int .i64 sh, .int .i64 bi, .int .i64 hs]) w (w3.alloc (.cells #[.int .i64 1000000, .int .i64 (-1), .int .i64 0, .slice none 0 0] 60)) (stA g ⟨1000000, -1, 0, []⟩) F (stB w3.heap.size w3.heap.size ⟨1000000, -1, 0, []⟩) (yF w3.heap.size (.slice none 0 0))) := Lib.hid
      ⟨HB3.out.trans (hb4.mono HB3.out.size), HW3.out.1.below hb4, ⟨_, ⟨Blk.new w3 _ _, OwnL.nil _ _ _ _, by simp [Value.ownBlock], Nat.le_refl _⟩, rfl⟩, (fun q hq => Nat.le_of_lt (HW3.out.2 q hq)), (fun q hq => by
        rw [hyF q hq]
        exact HB3.out.size), (fun q hq hG => by
        have := HW3.out.1.lt q hq
        have := hyF q hG
        omega), keepBlk (HS3.out.below hb4 HS3.out.lt) fun hbad => by
        rcases hbad with h | h
        · have := HW3.out.2 _ h
          omega
        · have := hyF _ h
          have := HS3.out.lt
          omega⟩
    clear hb4 hyF HW3 HS3
    have b0 := HW4.out.x.cell 0
    have b1 := HW4.out.x.cell 1
    have b2 := HW4.out.x.cell 2
    have b3 := HW4.out.x.cell 3
    simp at b0 b1 b2 b3
    go_wp2_with fail
    revert HW4 b0 b1 b2 b3
    generalize w3.alloc (.cells #[.int .i64 1000000, .int .i64 (-1), .int .i64 0, .slice none 0 0] 60) = w4
    generalize w3.heap.size = gy
    intro HW4 b0 b1 b2 b3
    have hN0 := fine_start 1000000 (by omega) (by omega)
    have HTS : Hid (∀ u, Below w.heap.size w u → Ts u (.slice A l.length c) l ∧ Ld u) := Lib.hid fun u hu => ⟨H.out.below hu, HLD.out.below hu⟩
    have hWr := bwrite_any (N := 0) id 1 _ l ⟨pg, sh, bi, hs⟩ w4 HW4.out.a hN0 (by omega) (fun u hu => (HTS.out u (HW4.out.below.trans (hu.mono HW4.out.below.size))).1) hid (by omega) (HTS.out _ HW4.out.below).2
    have hDw := fun u (vs : Value) (hst : DS u gy gy vs ⟨1000000, -1, 0, []⟩) (hu : Ts u (.slice A l.length c) l) => DWrite_any (N := 0) id 1 _ l ⟨pg, sh, bi, hs⟩ u hst hN0 (by omega) hu hid (by omega) (by omega)
    have HNR : Hid ((wrA ⟨1000000, -1, 0, []⟩ id 1 l ⟨pg, sh, bi, hs⟩).1.fine (0 + 203) ∧ (wrA ⟨1000000, -1, 0, []⟩ id 1 l ⟨pg, sh, bi, hs⟩).1.left = -1) := Lib.hid ⟨wrA_fine hN0 _ _ _ _ (by omega), wrA_left1 rfl _ _ _ _⟩
    generalize wrA ⟨1000000, -1, 0, []⟩ id 1 l ⟨pg, sh, bi, hs⟩ = wa at hWr hDw HNR
    generalize wrM ⟨1000000, -1, 0, []⟩ id 1 l ⟨pg, sh, bi, hs⟩ = M at hWr hDw
    obtain ⟨mr, cd⟩ := wa
    obtain ⟨mi, ml, ms, mn, mp, mt⟩ := M
    simp only [meV, szV] at hWr hDw HNR
    clear hN0
    refine hWr.mono ?_
    rintro e w7 ⟨rfl, F7, hP7, hG7⟩
    have HW7 := Lib.hid (HW4.out.stepA (A' := stA g mr) (stA_thing _ _) (stB_thing _ _ _) hP7 hG7.apt hG7.new)
    clear hWr hP7 hG7 HW4 b0 b1 b2 b3
    have b0 := HW7.out.x.cell 0
    have b1 := HW7.out.x.cell 1
    have b2 := HW7.out.x.cell 2
    have b3 := HW7.out.x.cell 3
    simp at b0 b1 b2 b3
    obtain ⟨vy, hD7, hG7⟩ := HW7.out.b
    have hDw7 := hDw w7 vy hD7 (HTS.out _ HW7.out.below).1
    clear hDw hD7
    go_wp2_with fail
    refine hDw7.mono ?_
    rintro e w8 ⟨rfl, v8, hD8, hG8⟩
    have HW8 : Hid (W2 (fun _ => True) w w8 (stA g mr) F7 (stB gy gy mr) (yF gy v8)) := Lib.hid ((HW7.out.stepB (B' := stB gy gy mr) (stA_thing _ _) ⟨v8, hD8, rfl⟩ (by rw [hG7]; exact hG8.apt) (by rw [hG7]; exact hG8.new)).say fun _ _ => trivial)
    clear hDw7 hG7 hD8 hG8 HW7 b0 b1 b2 b3 vy
    go_wp2_with fail
    go_loopg [15] t.length (fun gk iv wr => ∃ (k : Nat) (Fk Gk : Nat → Prop) (mk : Sm), k + gk = t.length ∧ iv = .int .i64 (k : Int) ∧ Hid (W2 (fun _ => True) w wr (stA g mk) Fk (stB gy gy mk) Gk ∧ mk.fine (203 + k) ∧ mk.left = -1))
    case atStart => exact ⟨0, F7, _, mr, by omega, rfl, Lib.hid ⟨HW8.out, HNR.out.1, HNR.out.2⟩⟩
    case round =>
      obtain ⟨k, Fk, Gk, mk, hk, rfl, HW⟩ := hrel
      clear HW8 HNR
      by_cases hlt : k < t.length
      · obtain ⟨gk1, hgk1⟩ : ∃ x, gk = x + 1 := ⟨gk - 1, by omega⟩
        obtain ⟨d, hd⟩ : ∃ d, t[k]? = some d := ⟨_, List.getElem?_eq_getElem hlt⟩
        obtain ⟨gd, od, bv, hA, hgd, c0, c1, c2, c3, c4, hbs, hw1, hn1, hx1, hnm⟩ := Ds.cells HDS.out hd
        subst hA
        have hB := HW.out.1.below
        replace c0 := (hB.cell hgd).trans c0
        replace c1 := (hB.cell hgd).trans c1
        replace c2 := (hB.cell hgd).trans c2
        replace c3 := (hB.cell hgd).trans c3
        replace c4 := (hB.cell hgd).trans c4
        have hbs0 := hbs
        obtain ⟨Ad, cb, hbv, _, _, _⟩ := hbs
        subst hbv
        have HBS := Lib.hid hbs0
        have HMF := Lib.hid HW.out.2.1
        have HML := Lib.hid HW.out.2.2
        have hzn := Bstr_size d.nm
        have a0 : (0 : Int) ≤ (k : Int) := by omega
        have a1 : (k : Int) < (t.length : Int) := by omega
        have hb5 : Below wr.heap.size wr (wr.alloc (.cells #[.int .i64 d.what, .string (Bstr d.nm), .int .i64 d.n, .int .u8 d.x, .slice Ad d.b.length cb] 69)) := (Below.refl _ _).alloc (Nat.le_refl _) _
        have HW5 : Hid (W2 (fun u => Blk u wr.heap.size 69 #[.int .i64 d.what, .string (Bstr d.nm), .int .i64 d.n, .int .u8 d.x, .slice Ad d.b.length cb] ∧ Bs u (.slice Ad d.b.length cb) d.b) w (wr.alloc (.cells #[.int .i64 d.what, .string (Bstr d.nm), .int .i64 d.n, .int .u8 d.x, .slice Ad d.b.length cb] 69)) (stA g mk) Fk (stB gy gy mk) Gk) := Lib.hid ((HW.out.1.later (stA_thing _ _) (stB_thing _ _ _) hb5).say (Keep.and (keepBlk (Blk.new wr _ _) fun hbad => by
          have := HW.out.1.bad_lt (stA_thing _ _) (stB_thing _ _ _) _ hbad
          omega) fun u hu => (HBS.out.below (hB.trans (hb5.mono hB.size))).apt hu fun hne q hq hbad => by
          have h1 := HW.out.1.bad_ge q hbad
          obtain ⟨y, hy, hy2⟩ := HBS.out.block hne
          rw [hy] at hq
          injection hq with hq
          omega))
        have hsep : d.b ≠ [] → ∀ q, (Value.slice Ad d.b.length cb).ownBlock = some q → ¬ Fk q := fun hne q hq hF => by
          have h1 := HW.out.1.bad_ge q (.inl hF)
          obtain ⟨y, hy, hy2⟩ := HBS.out.block hne
          rw [hy] at hq
          injection hq with hq
          omega
        have HSEP := Lib.hid hsep
        have hPk := fun u => pick15_any d.what 3 u hw1.1 hw1.2 (by omega) (by omega)
        have hP0 : 0 ≤ pick15 d.what 3 := by unfold pick15; omega
        have hP3 : pick15 d.what 3 < 3 := by unfold pick15; omega
        have HTU : Hid (turnS mk d = if pick15 d.what 3 = 0 then (sPut mk d.nm d.b).1 else if pick15 d.what 3 = 1 then (sDel mk d.nm).1 else (sAlt mk d.nm d.n (UInt8.ofNat d.x.toNat)).1) := Lib.hid rfl
        generalize pick15 d.what 3 = pk at hPk hP0 hP3 HTU
        clear hB HW hbs0 hd hb5 hsep hgd
        by_cases hlb : 20000 < d.b.length
        · go_wp2_with fail
          refine bodyPost_ret (v := .tuple #[.pointer (some ⟨g, 0, none⟩), .pointer none, .bool false]) (by simp [results, go_sem]; try rfl) rfl ?_
          first | exact .inl ⟨_, rfl, HW5.out.below⟩ | exact .inl ⟨⟨_, rfl⟩, HW5.out.below⟩
        by_cases hln : 100 < d.nm.length
        · go_wp2_with fail
          refine bodyPost_ret (v := .tuple #[.pointer (some ⟨g, 0, none⟩), .pointer none, .bool false]) (by simp [results, go_sem]; try rfl) rfl ?_
          first | exact .inl ⟨_, rfl, HW5.out.below⟩ | exact .inl ⟨⟨_, rfl⟩, HW5.out.below⟩
        go_wp2_with fail
        revert HW5
        generalize wr.alloc (.cells #[.int .i64 d.what, .string (Bstr d.nm), .int .i64 d.n, .int .u8 d.x, .slice Ad d.b.length cb] 69) = w5
        generalize wr.heap.size = gx
        intro HW5
        have k0 := HW5.out.x.1.cell 0
        have k1 := HW5.out.x.1.cell 1
        have k2 := HW5.out.x.1.cell 2
        have k3 := HW5.out.x.1.cell 3
        have k4 := HW5.out.x.1.cell 4
        simp at k0 k1 k2 k3 k4
        refine (hPk _).mono ?_
        rintro e w6 ⟨rfl, rfl⟩
        clear hPk c0 c1 c2 c3 c4
        have hsep := HSEP.out
        rcases (by omega : pk = 0 ∨ pk = 1 ∨ pk = 2) with rfl | rfl | rfl
        · have hPr := stPut_any (n := d.nm) (b := d.b) HW5.out.a HMF.out (by omega) (by omega) HW5.out.x.2 hsep (by omega)
          go_wp2_with fail
          refine hPr.mono ?_
          rintro e w7 ⟨rfl, F7', hP7, hA7, hN7⟩
          have HW7 := Lib.hid (HW5.out.stepA (A' := stA g (sPut mk d.nm d.b).1) (stA_thing _ _) (stB_thing _ _ _) hP7 hA7 hN7)
          clear hPr hP7 hA7 hN7 k0 k1 k2 k3 k4
          have k1 := HW7.out.x.1.cell 1
          have k2 := HW7.out.x.1.cell 2
          have k3 := HW7.out.x.1.cell 3
          have k4 := HW7.out.x.1.cell 4
          simp at k1 k2 k3 k4
          have hst := strOf HW7.out.x.2
          obtain ⟨vk, hDk, hGk⟩ := HW7.out.b
          have hDo := DPut_any gy gy vk mk d.nm d.b w7 hDk (HMF.out.ok (by omega)) (by have := HMF.out.calls1; omega) (by omega) (by omega)
          go_wp2_with fail
          refine hDo.mono ?_
          rintro e w8 ⟨rfl, v8, hD8, hA8, hN8⟩
          have HW8 := Lib.hid ((HW7.out.stepB (B' := stB gy gy (sPut mk d.nm d.b).1) (stA_thing _ _) ⟨v8, hD8, rfl⟩ (by rw [hGk]; exact hA8) (fun q hq => by
          rw [hGk]
          rcases hq with h | h
          · exact .inl (.inl h)
          · rcases hN8 q h with h | h
            · exact .inl (.inr h)
            · exact .inr h)).say (X' := fun _ => True) fun _ _ => trivial)
          clear hDo hDk hD8 hA8 hN8 hst k1 k2 k3 k4 HW7
          go_wp2_with fail
          go_roundg gk1
          case measure => omega
          case rel =>
            have hfi := turnS_fine HMF.out d
            have hle := turnS_left HML.out d
            have he : turnS mk d = (sPut mk d.nm d.b).1 := by rw [HTU.out]; simp
            rw [he] at hfi hle
            exact ⟨k + 1, F7', _, _, by omega, by go_num, Lib.hid ⟨HW8.out, hfi, hle⟩⟩
        · have hPr := stDel_any (n := d.nm) HW5.out.a HMF.out (by omega) (by omega)
          go_wp2_with fail
          refine hPr.mono ?_
          rintro e w7 ⟨rfl, F7', hP7, hA7, hN7⟩
          have HW7 := Lib.hid (HW5.out.stepA (A' := stA g (sDel mk d.nm).1) (stA_thing _ _) (stB_thing _ _ _) hP7 hA7 hN7)
          clear hPr hP7 hA7 hN7 k0 k1 k2 k3 k4
          have k1 := HW7.out.x.1.cell 1
          have k2 := HW7.out.x.1.cell 2
          have k3 := HW7.out.x.1.cell 3
          have k4 := HW7.out.x.1.cell 4
          simp at k1 k2 k3 k4
          have hst := strOf HW7.out.x.2
          obtain ⟨vk, hDk, hGk⟩ := HW7.out.b
          have hDo := DDelete_any gy gy vk mk d.nm w7 hDk (HMF.out.ok (by omega)) (by have := HMF.out.calls1; omega)
          go_wp2_with fail
          refine hDo.mono ?_
          rintro e w8 ⟨rfl, v8, hD8, hg8, hN8⟩
          have HW8 := Lib.hid ((HW7.out.stepB (B' := stB gy gy (sDel mk d.nm).1) (stA_thing _ _) ⟨v8, hD8, rfl⟩ (Apt.of_grown hg8 fun q hq => by rw [hGk]; exact .inl (Option.some.inj hq).symm) (fun q hq => by
          rw [hGk]
          rcases hq with h | h
          · exact .inl (.inl h)
          · rcases hN8 q h with h | h
            · exact .inl (.inr h)
            · exact .inr h)).say (X' := fun _ => True) fun _ _ => trivial)
          clear hDo hDk hD8 hg8 hN8 hst k1 k2 k3 k4 HW7
          go_wp2_with fail
          go_roundg gk1
          case measure => omega
          case rel =>
            have hfi := turnS_fine HMF.out d
            have hle := turnS_left HML.out d
            have he : turnS mk d = (sDel mk d.nm).1 := by rw [HTU.out]; simp
            rw [he] at hfi hle
            exact ⟨k + 1, F7', _, _, by omega, by go_num, Lib.hid ⟨HW8.out, hfi, hle⟩⟩
        · have hPr := stAlt_any (n := d.nm) (at_ := d.n) (x := d.x) HW5.out.a HMF.out (by omega) hn1.1 hn1.2 hx1.1 hx1.2
          go_wp2_with fail
          refine hPr.mono ?_
          rintro e w7 ⟨rfl, F7', hP7, hA7, hN7⟩
          have HW7 := Lib.hid (HW5.out.stepA (A' := stA g (sAlt mk d.nm d.n (UInt8.ofNat d.x.toNat)).1) (stA_thing _ _) (stB_thing _ _ _) hP7 hA7 hN7)
          clear hPr hP7 hA7 hN7 k0 k1 k2 k3 k4
          have k1 := HW7.out.x.1.cell 1
          have k2 := HW7.out.x.1.cell 2
          have k3 := HW7.out.x.1.cell 3
          have k4 := HW7.out.x.1.cell 4
          simp at k1 k2 k3 k4
          have hst := strOf HW7.out.x.2
          obtain ⟨vk, hDk, hGk⟩ := HW7.out.b
          have hDo := DAlter_any gy gy vk mk d.nm d.n d.x w7 hDk (HMF.out.ok (by omega)) hx1.1 hx1.2
          go_wp2_with fail
          refine hDo.mono ?_
          rintro e w8 ⟨rfl, hD8, hA8⟩
          have HW8 := Lib.hid ((HW7.out.stepB (B' := stB gy gy (sAlt mk d.nm d.n (UInt8.ofNat d.x.toNat)).1) (stA_thing _ _) ⟨vk, hD8, rfl⟩ (by rw [hGk]; exact hA8) (fun q hq => by
          rw [hGk]
          exact .inl hq)).say (X' := fun _ => True) fun _ _ => trivial)
          clear hDo hDk hD8 hA8 hst k1 k2 k3 k4 HW7
          go_wp2_with fail
          go_roundg gk1
          case measure => omega
          case rel =>
            have hfi := turnS_fine HMF.out d
            have hle := turnS_left HML.out d
            have he : turnS mk d = (sAlt mk d.nm d.n (UInt8.ofNat d.x.toNat)).1 := by rw [HTU.out]; simp
            rw [he] at hfi hle
            exact ⟨k + 1, F7', _, _, by omega, by go_num, Lib.hid ⟨HW8.out, hfi, hle⟩⟩
      · go_wp2_with fail
        refine bodyPost_ret (v := .tuple #[.pointer (some ⟨g, 0, none⟩), .pointer (some ⟨gy, 0, none⟩), .bool true]) (by simp [results, go_sem]; try rfl) rfl ?_
        exact .inr ⟨_, _, _, _, mk, rfl, HFW.out, HW.out.2.1.more (by omega), HW.out.2.2, HW.out.1⟩

end Go.Proofs.YtfccfnbmmgfgcaaGreatDoor

/-
  CONTRACTS of the document's Record, Records. Conditions: what each says.
-/
import Derived.Test.YtdfjicjlmejonaaWlA
import Derived.Test.YtdfjicjlmejonaaTpA
import Derived.Test.YtdfjicjlmejonaaStr
import Derived.Test.YtdfjicjlmejonaaLvKey
namespace Go.Proofs.Ytdfjicjlmejonaa
open Go.RowKit
set_option maxRecDepth 100000

theorem bytesBs (l : List UInt8) (w : World) (hl : l.length ≤ 1048576) : ∃ G W, (convert 9 22 (.string (Bstr l))).run Try.prog w = .ok (.slice (some ⟨w.heap.size, 0, none⟩) l.length G) W ∧ Bs W (.slice (some ⟨w.heap.size, 0, none⟩) l.length G) l ∧ Below w.heap.size w W ∧ w.heap.size < W.heap.size := by
  obtain ⟨G, W, h1, h2, h3, h4, h5, h6⟩ := bytesOf l w hl
  refine ⟨G, W, h1, ⟨_, G, rfl, h2, h3, Rd.of_cells fun j u hu => ?_⟩, h4, h5⟩
  rw [BV_getElem?] at hu
  cases hj : l[j]? with
  | none => rw [hj] at hu; cases hu
  | some y =>
    rw [hj] at hu
    injection hu with hu
    subst hu
    rw [Addr.add_lit, Nat.zero_add]
    exact (h6 j y hj).1

theorem Record_any (s : List UInt8) (w : World) (hl : s.length ≤ 65535) :
    Calls Try.prog 28 #[.string (Bstr s)] w fun e w' => e = .returned (.string (Bstr (recB s))) ∧ Below w.heap.size w w' := by
  obtain ⟨G, W, hcv, hbs, hb, _⟩ := bytesBs s w (by omega)
  go_enter Try.func28, Try.ntmps28
  go_wp2_with fail
  refine (Text_any s _ _ hl hbs).mono ?_
  rintro e w1 ⟨v1, rfl, ho1, hb1⟩
  clear hcv
  have hl1 : (bet s.length 2 ++ s).length ≤ 140737488355320 := by rw [List.length_append, bet_length]; omega
  have hB1 := hb.trans (hb1.mono hb.size)
  go_wp2_with fail
  refine (Seal_any _ v1 _ hl1 ho1.bs).mono ?_
  rintro e w2 ⟨v2, rfl, ho2, hb2⟩
  have hst := strOf ho2.bs
  have hB2 := hB1.trans (hb2.mono hB1.size)
  obtain ⟨A, c, rfl, _⟩ := ho2.form
  clear ho1 ho2 hb1 hb2 hB1 hb hbs hl1
  generalize hx : (sealedOf (bet s.length 2 ++ s)).length = n at *
  go_wp2_with fail
  go_ret
  exact ⟨rfl, hB2⟩

theorem Bstr_cut (s : List UInt8) (i j : Nat) : (Bstr s).extract i j = Bstr ((s.drop i).take (j - i)) := by
  apply ByteArray.ext
  simp [Bstr]

set_option maxHeartbeats 3200000 in
theorem Records_any (b : List UInt8) (w : World) (hb : b.length ≤ 1048576) :
    Calls Try.prog 8 #[.string (Bstr b)] w fun e w' => ∃ (t : List (List UInt8)) (q : Nat) (x : Value), e = .returned (.tuple #[x, .int .i64 (q : Int)]) ∧ Recs b t 0 q ∧ OwnL 1 w' w.heap.size 9 x (t.map stC) ∧ Below w.heap.size w w' := by
  have zb : (Bstr b).size = b.length := Bstr_size _
  go_enter Try.func8, Try.ntmps8
  go_wp2_with fail
  go_loopw [4, 5] (fun ov av wr => ∃ (t : List (List UInt8)) (q : Nat), OwnL 1 wr w.heap.size 9 ov (t.map stC) ∧ av = .int .i64 (q : Int) ∧ Hid (Pre b t 0 q) ∧ q ≤ b.length ∧ t.length ≤ q ∧ Below w.heap.size w wr) (fun _ av _ => b.length - (intOf av).toNat)
  case atStart => exact ⟨[], 0, OwnL.nil _ _ _ _, rfl, Lib.hid rfl, Nat.zero_le _, Nat.le_refl _, Below.refl _ _⟩
  case round =>
    obtain ⟨t, q, hO, rfl, HP, hq, htq, hB⟩ := hrel
    obtain ⟨G, W, hcv, hbs, hbW, hWs⟩ := bytesBs b wr hb
    have HO := Lib.hid hO
    have HBW := Lib.hid hbW
    have hrr : RR (W.alloc (.cells #[.slice (some ⟨wr.heap.size, 0, none⟩) b.length G, .int .i64 (q : Int), .int .i64 (-1)] 66)) W.heap.size (.slice (some ⟨wr.heap.size, 0, none⟩) b.length G) b q false :=
      ⟨Blk.new _ _ _, hbs.alloc _, hq, fun _ => by simp [Value.ownBlock]; omega, by omega⟩
    have hT := Text_all W.heap.size (.slice (some ⟨wr.heap.size, 0, none⟩) b.length G) b q false 16384 _ hrr
    have hba : Below wr.heap.size wr (W.alloc (.cells #[.slice (some ⟨wr.heap.size, 0, none⟩) b.length G, .int .i64 (q : Int), .int .i64 (-1)] 66)) := hbW.alloc hbW.size _
    have HBA := Lib.hid hba
    have HBB := Lib.hid hB
    clear hO hbs hbW hrr hba hB
    cases hok : textOk b q false 16384 with
    | false =>
      have HE : Hid (Recs b t 0 q) := Lib.hid ⟨HP.out, fun s hs => by rw [hs.text.1] at hok; cases hok⟩
      rw [hok] at hT
      clear hok
      go_wp2_with fail
      refine hT.mono ?_
      rintro e w1 ⟨v1, rfl, _, hr1, hg1⟩
      have HB1 := Lib.hid (HBA.out.grown hg1 HBA.out.size (fun z hz => by injection hz with hz; omega))
      have k2 := hr1.blk.cell 2
      simp [badAt] at k2
      clear hT hcv
      go_wp2_with fail
      go_ret2
      exact ⟨t, q, _, rfl, HE.out, HO.out.below HB1.out, HBB.out.trans (HB1.out.mono HBB.out.size)⟩
    | true =>
      obtain ⟨a1, a2, a3⟩ := textOk_iff.1 hok
      have e1 : tOut b q false 16384 = (b.drop (q + 2)).take (tsize b q) := by rw [tOut, if_pos hok]
      have e2 : tNext b q false 16384 = q + 2 + tsize b q := by rw [tNext, if_pos hok]
      have HAT : Hid ((b.drop (q + 2)).take (tsize b q) ≠ [] → (b.drop q).take (tsize b q + 6) = recB ((b.drop (q + 2)).take (tsize b q)) → RecAt b q ((b.drop (q + 2)).take (tsize b q))) := Lib.hid fun h1 h2 => recAt_of hok h1 h2
      have HNO : Hid (∀ x, RecAt b q x → x = (b.drop (q + 2)).take (tsize b q) ∧ x ≠ [] ∧ q + (tsize b q + 6) ≤ b.length ∧ (b.drop q).take (tsize b q + 6) = recB x) := Lib.hid fun x hx => by
        have h1 := hx.1
        have h2 := hx.len
        have h3 := hx.2.2
        rw [← hx.size] at h3
        refine ⟨hx.text.2.symm, fun e => by subst e; simp at h1, ?_, h3⟩
        rw [hx.size]
        omega
      have hsl : ((b.drop (q + 2)).take (tsize b q)).length = tsize b q := by
        rw [List.length_take, List.length_drop]
        omega
      rw [hok, e1, e2] at hT
      generalize (b.drop (q + 2)).take (tsize b q) = s at *
      generalize tsize b q = n at *
      clear hok e1 e2
      go_wp2_with fail
      refine hT.mono ?_
      rintro e w1 ⟨v1, rfl, ho1, hr1, hg1⟩
      have HB1 := Lib.hid (HBA.out.grown hg1 HBA.out.size (fun z hz => by injection hz with hz; omega))
      have k1 := hr1.blk.cell 1
      have k2 := hr1.blk.cell 2
      simp [badAt] at k1 k2
      have HR1 := Lib.hid hr1
      have HO1 := Lib.hid ho1
      have HSL := Lib.hid hsl
      obtain ⟨A1, c1, hv1, hc11, hc12, _⟩ := ho1.form
      rw [hsl] at hv1 hc11
      subst hv1
      have k1' : w1.cell? ⟨W.heap.size, 1, none⟩ = some (.int .i64 ((q : Int) + 2 + (n : Int))) := k1
      have h16 : n ≤ 16384 := by omega
      clear hT hcv k1 hr1 ho1 hg1
      by_cases hn0 : n = 0
      · have HE : Hid (Recs b t 0 q) := Lib.hid ⟨HP.out, fun x hx => by
          obtain ⟨h1, h2, _⟩ := HNO.out x hx
          exact h2 (by rw [h1]; exact List.eq_nil_of_length_eq_zero (by rw [HSL.out]; exact hn0))⟩
        subst hn0
        go_wp2_with fail
        go_ret2
        exact ⟨t, q, _, rfl, HE.out, HO.out.below HB1.out, HBB.out.trans (HB1.out.mono HBB.out.size)⟩
      have hn0b : ((n : Int) == 0) = false := by simp; omega
      by_cases hbig : b.length < q + (n + 6)
      · have HE : Hid (Recs b t 0 q) := Lib.hid ⟨HP.out, fun x hx => by
          obtain ⟨_, _, h3, _⟩ := HNO.out x hx
          omega⟩
        go_wp2_with fail
        go_ret2
        exact ⟨t, q, _, rfl, HE.out, HO.out.below HB1.out, HBB.out.trans (HB1.out.mono HBB.out.size)⟩
      have hst : ∀ u, Below w1.heap.size w1 u → (convert 22 9 (.slice A1 n c1)).run Try.prog u = .ok (.string (Bstr s)) u := fun u hu => strOf (HO1.out.bs.below hu)
      have hwr : IntKind.i64.wrap ((q : Int) + 2 + (n : Int) + 4) = (q : Int) + 2 + (n : Int) + 4 := IntWalk.i64_in _ (by omega)
      have hif1 : 0 ≤ (q : Int) + 2 + (n : Int) + 4 ∧ (q : Int) + 2 + (n : Int) + 4 ≤ ((Bstr b).size : Int) := ⟨by omega, by omega⟩
      have hif2 : (q : Int) ≤ (q : Int) + 2 + (n : Int) + 4 := by omega
      have hext : (Bstr b).extract q ((q : Int) + 2 + (n : Int) + 4).toNat = Bstr ((b.drop q).take (n + 6)) := by
        rw [show ((q : Int) + 2 + (n : Int) + 4).toNat = q + (n + 6) by omega, Bstr_cut, show q + (n + 6) - q = n + 6 by omega]
      have hRec := fun u => Record_any s u (by have := HSL.out; omega)
      have hgs : W.heap.size < w1.heap.size := HR1.out.blk.lt
      go_wp2_with fail
      clear zb
      refine wp_region_mix [(0, false), (1, false), (2, false), (3, false), (4, false), (5, false), (6, false), (7, false), (8, false), (9, false), (10, true), (11, true)] (fun u => u.cell? ⟨W.heap.size, 1, none⟩ = some (.int .i64 ((q : Int) + 2 + (n : Int))) ∧ (convert 22 9 (.slice A1 n c1)).run Try.prog u = .ok (.string (Bstr s)) u) (by kernel_rfl) (by kernel_rfl) (by decide +kernel) rfl ⟨k1', hst _ (Below.refl _ _).drew⟩ ?_
      repeat
        (refine mix_read (o := ⟨_, _, _, _, _, _⟩) (v := ?_) rfl (by rfl) (fun w' hS => ?_) ?_
         rotate_left
         obtain ⟨hS1, hS2⟩ := hS
         go_simp
         with_reducible rfl
         try simp only [Act.put, List.setIfInBounds_toArray, List.set_cons_zero, List.set_cons_succ])
      refine mix_step (o := ⟨_, _, _, _, _, _⟩) rfl (fun K hK => ?_)
      go_simp
      refine (hRec _).mono ?_
      rintro e w2 ⟨rfl, hb2⟩
      have hb12 : Below w1.heap.size w1 w2 := (Below.refl w1.heap.size w1).drew.trans hb2
      have k1'' : w2.cell? ⟨W.heap.size, 1, none⟩ = some (.int .i64 ((q : Int) + 2 + (n : Int))) := (hb12.cell (p := ⟨W.heap.size, 1, none⟩) hgs).trans k1'
      have hst2 := hst w2 hb12
      refine hK.out _ _ ⟨k1'', hst2⟩ ?_
      clear hK K
      try simp only [Act.put, List.setIfInBounds_toArray, List.set_cons_zero, List.set_cons_succ]
      refine mix_step (o := ⟨_, _, _, _, _, _⟩) rfl (fun K hK => ?_)
      go_simp
      refine hK.out _ _ ⟨k1'', hst2⟩ ?_
      clear hK K
      refine mix_done ?_
      have HB2 := Lib.hid (HB1.out.trans (hb12.mono HB1.out.size))
      have HST2 := Lib.hid hst2
      clear hst hRec k1' k2 hwr hif1 hif2 hext
      by_cases heq : (b.drop q).take (n + 6) = recB s
      · have hAt := HAT.out (fun e => by
          have := HSL.out
          rw [e] at this
          simp at this
          omega) heq
        have hq' := hAt.len
        have hqe : (!(Bstr ((b.drop q).take (n + 6))).toList == (Bstr (recB s)).toList) = false := by rw [heq]; simp
        rw [hqe]
        have HP2 : Hid (Pre b (t ++ [s]) 0 (q + n + 6)) := Lib.hid (by have := HP.out.snoc hAt; rw [HSL.out] at this; exact this)
        rw [HSL.out] at hq'
        have ha : Below w2.heap.size w2 (w2.alloc (.cells #[.string (Bstr s)] 9)) := (Below.refl _ _).alloc (Nat.le_refl _) _
        have HBa := Lib.hid (HB2.out.trans (ha.mono HB2.out.size))
        have HOa := Lib.hid (HO.out.below HBa.out)
        have HLV := Lib.hid (Lv.lit1 w2 [.string (Bstr s)] 9)
        have HSZ : Hid (w.heap.size ≤ (w2.alloc (.cells #[.string (Bstr s)] 9)).heap.size) := Lib.hid (Nat.le_trans HBB.out.size HBa.out.size)
        clear heq hAt ha hqe
        go_wp2_with (at_builtin; refine wpList_append_elems _ strT1 rfl _ _ rfl w.heap.size _ _ rfl HOa.out _ _ rfl HLV.out (by simp [Value.oneCell']) (by simp only [maxLen, List.length_map, List.length_singleton]; omega) (by simp only [List.length_map, List.length_singleton]; omega) HSZ.out ?_)
        intro v3 w3 ho3 hg3 _
        have HO3 : Hid (OwnL 1 w3 w.heap.size 9 v3 ((t ++ [s]).map stC)) := Lib.hid (by simpa [stC] using ho3)
        have hB3 := (HBB.out.trans (HBa.out.mono HBB.out.size)).grown hg3 HSZ.out HOa.out.ge
        have k1f : w3.cell? ⟨W.heap.size, 1, none⟩ = some (.int .i64 ((q : Int) + 2 + (n : Int))) := by
          have hl2 : W.heap.size < w2.heap.size := Nat.lt_of_lt_of_le hgs hb12.size
          have e1 : w3.heap[W.heap.size]? = (w2.alloc (.cells #[.string (Bstr s)] 9)).heap[W.heap.size]? := hg3.block _ (by simp; omega) fun e => by
            have := HO.out.lt _ e.symm
            omega
          have e2 : (w2.alloc (.cells #[.string (Bstr s)] 9)).heap[W.heap.size]? = w2.heap[W.heap.size]? := Below.heap_alloc w2 _ _ hl2
          rw [← k1'']
          exact World.cell?_of_block (e1.trans e2)
        have HB3 := Lib.hid hB3
        clear ho3 hg3 hst2 k1'' hB3
        go_wp2_with fail
        exact ⟨⟨t ++ [s], q + n + 6, HO3.out, by go_num, HP2, by omega, by simp; omega, HB3.out⟩, by simp [intOf]; omega⟩
      · have HE : Hid (Recs b t 0 q) := Lib.hid ⟨HP.out, fun x hx => by
          obtain ⟨h1, _, _, h4⟩ := HNO.out x hx
          rw [h1] at h4
          exact heq h4⟩
        have hqe : (!(Bstr ((b.drop q).take (n + 6))).toList == (Bstr (recB s)).toList) = true := by rw [Bstr_toList, Bstr_toList]; simpa using heq
        rw [hqe]
        clear heq HAT hqe
        go_wp2_with fail
        go_ret2
        exact ⟨t, q, _, rfl, HE.out, HO.out.below HB2.out, HBB.out.trans (HB2.out.mono HBB.out.size)⟩
end Go.Proofs.Ytdfjicjlmejonaa

/-
  CONTRACTS of the program's block.objects: what is put of a block. Conditions: what each says; of the library's tables: Ld.
-/
import Derived.Test.YtnghpcfdgjkokaaGreatDoorBkC
namespace Go.Proofs.YtnghpcfdgjkokaaGreatDoor
open Go.RowKit
set_option maxRecDepth 100000

set_option maxHeartbeats 6400000 in
theorem objects_any (id : Nat) (m : Me) (vl vp : Value) (l : List Tn) (ps : List (List Tn)) (s : Sz) (w : World) (hid : m.id = (id : Int)) (hib : id < 18446744073709551616) (hmb : meB m = true) (hmo : m.ok) (hl : Ts w vl l) (hp : Sls TsV w vp ps) (hs : szB s = true)
    (hpb : pagesB ps = true) (hpg : ∀ p ∈ ps, pgB p = true) (hn : ps.length ≤ 200) (hfl : ps.flatten.length ≤ 100000000) (hL : Ld w) :
    Calls Tryz.prog 32 #[meV m, vl, vp, szV s] w fun e w' => ∃ x, e = .returned x ∧ ObR w' w.heap.size x (obPages id ps ++ [⟨nmOf id [105] 0, bkIx ps⟩, ⟨nmOf id [102] 0, (bkFl l s).bytes⟩, ⟨nmOf id [109] 0, sealedOf (meRaw m)⟩]) ∧ Below w.heap.size w w' := by
  obtain ⟨mi, mlv, mst, men, mpg, mtr⟩ := m
  simp only at hid
  subst hid
  obtain ⟨pg, sh, bi, hs'⟩ := s
  obtain ⟨A, c, rfl, hc1, hc2⟩ := hl.form
  obtain ⟨A', c', rfl, hc3, hc4⟩ := hp.form
  have HP := Lib.hid hp
  have HL := Lib.hid hl
  have HLD := Lib.hid hL
  have HM := Lib.hid (And.intro hmb hmo)
  have HS := Lib.hid hs
  have HPB := Lib.hid hpb
  have HPG := Lib.hid hpg
  have HFL := Lib.hid hfl
  have HI0 : Hid (BxM w w.heap.size (w.heap.size + 1) #[.int .u64 (id : Int), .int .i64 mlv, .int .i64 mst, .int .i64 men, .int .i64 mpg, .int .i64 mtr] #[.int .i64 pg, .int .i64 sh, .int .i64 bi, .int .i64 hs'] ((w.alloc (.cells #[.int .u64 (id : Int), .int .i64 mlv, .int .i64 mst, .int .i64 men, .int .i64 mpg, .int .i64 mtr] 30)).alloc (.cells #[.int .i64 pg, .int .i64 sh, .int .i64 bi, .int .i64 hs'] 25))) := Lib.hid
    ⟨(Blk.new w _ _).alloc _, by simpa using Blk.new (w.alloc (.cells #[.int .u64 (id : Int), .int .i64 mlv, .int .i64 mst, .int .i64 men, .int .i64 mpg, .int .i64 mtr] 30)) 25 #[.int .i64 pg, .int .i64 sh, .int .i64 bi, .int .i64 hs'], ((Below.refl _ _).alloc (Nat.le_refl _) _).alloc (by simp) _⟩
  have hsz : ((w.alloc (.cells #[.int .u64 (id : Int), .int .i64 mlv, .int .i64 mst, .int .i64 men, .int .i64 mpg, .int .i64 mtr] 30)).alloc (.cells #[.int .i64 pg, .int .i64 sh, .int .i64 bi, .int .i64 hs'] 25)).heap.size = w.heap.size + 2 := by simp
  clear hp hl hL hmb hmo hs hpb hpg hfl
  simp only [meV, szV]
  go_enter Tryz.func32, Tryz.ntmps32
  go_wp2_with fail
  revert HI0 hsz
  generalize (w.alloc (.cells #[.int .u64 (id : Int), .int .i64 mlv, .int .i64 mst, .int .i64 men, .int .i64 mpg, .int .i64 mtr] 30)).alloc (.cells #[.int .i64 pg, .int .i64 sh, .int .i64 bi, .int .i64 hs'] 25) = w1
  obtain ⟨g4, hg4⟩ : ∃ n, n = w.heap.size := ⟨_, rfl⟩
  obtain ⟨g7, hg7⟩ : ∃ n, n = w.heap.size + 1 := ⟨_, rfl⟩
  rw [← hg7, ← hg4]
  intro HI0 hsz
  have HG : Hid (g4 < w1.heap.size ∧ g7 < w1.heap.size ∧ w.heap.size ≤ w1.heap.size) := Lib.hid ⟨by omega, by omega, by omega⟩
  clear hg4 hg7 hsz
  generalize hBB : w1.heap.size = B at *
  go_loopg [9, 18] ps.length (fun gk av iv wr => ∃ k : Nat, k + gk = ps.length ∧ iv = .int .i64 (k : Int) ∧ Hid (BxM w g4 g7 #[.int .u64 (id : Int), .int .i64 mlv, .int .i64 mst, .int .i64 men, .int .i64 mpg, .int .i64 mtr] #[.int .i64 pg, .int .i64 sh, .int .i64 bi, .int .i64 hs'] wr ∧ ObR wr B av (obPages id (ps.take k)) ∧ B ≤ wr.heap.size))
  case atStart => exact ⟨0, by omega, rfl, Lib.hid ⟨HI0.out, OwnK.nil _ _ _ _ _ _, by omega⟩⟩
  case round =>
    obtain ⟨k, hk, rfl, HW⟩ := hrel
    clear HI0
    by_cases hlt : k < ps.length
    · obtain ⟨gk1, hgk1⟩ : ∃ x, gk = x + 1 := ⟨gk - 1, by omega⟩
      obtain ⟨p, hkp⟩ : ∃ p, ps[k]? = some p := ⟨_, List.getElem?_eq_getElem hlt⟩
      obtain ⟨z, oz, dz, rfl, hz, c0, hd⟩ := HP.out.cell hkp
      have d0 := (HW.out.1.bel.cell (p := ⟨z, oz + k, none⟩) hz).trans c0
      have HD := Lib.hid ((show Ts w dz p from hd).below HW.out.1.bel)
      obtain ⟨Az, cz, rfl, _, _⟩ := Ts.form hd
      have HPP := Lib.hid (HPG.out p (List.mem_of_getElem? hkp))
      have HN : Hid (obPages id (ps.take (k + 1)) = obPages id (ps.take k) ++ [⟨nmOf id [112] (k : Int), pgOf p⟩]) := Lib.hid (by
        rw [take_snoc_at hkp, obPages_snoc, List.length_take, Nat.min_eq_left (Nat.le_of_lt hlt)]
        rfl)
      have a0 : (0 : Int) ≤ (k : Int) := by omega
      have a1 : (k : Int) < (ps.length : Int) := by omega
      obtain ⟨Av, cv, hav, hv1, hv2⟩ := HW.out.2.1.form
      subst hav
      have HLO : Hid ((obPages id (ps.take k)).length ≤ 1000000000) := Lib.hid (by rw [obPages_length, List.length_take]; omega)
      have hOl : (obPages id (ps.take k)).length = k := by rw [obPages_length, List.length_take, Nat.min_eq_left (Nat.le_of_lt hlt)]
      rw [hOl] at HW hv1 ⊢
      clear hkp c0 hd hOl
      go_wp2_with fail
      refine (pput_any _ p _ HD.out).mono ?_
      rintro e w3 ⟨x, er, rfl, hPut, hb3⟩
      obtain ⟨rfl, hx⟩ := hPut.yes HPP.out
      have HX3 := Lib.hid hx
      have HW3 : Hid (BxM w g4 g7 #[.int .u64 (id : Int), .int .i64 mlv, .int .i64 mst, .int .i64 men, .int .i64 mpg, .int .i64 mtr] #[.int .i64 pg, .int .i64 sh, .int .i64 bi, .int .i64 hs'] w3 ∧ ObR w3 B (.slice Av k cv) (obPages id (ps.take k)) ∧ B ≤ w3.heap.size) := Lib.hid ⟨HW.out.1.later hb3, HW.out.2.1.below hb3, Nat.le_trans HW.out.2.2 hb3.size⟩
      have HLT : Hid (∀ q, (Value.slice Av k cv).ownBlock = some q → q < wr.heap.size) := Lib.hid fun q hq => (HW.out.2.1.lt q hq).2
      have HBr : Hid (B ≤ wr.heap.size) := Lib.hid HW.out.2.2
      obtain ⟨Ax, cx, hxv, _, _⟩ := hx.form
      subst hxv
      generalize hnl : (pgOf p).length = nl at *
      have b0 := HW3.out.1.b4.cell 0
      simp at b0
      clear hPut hx hb3 HW d0
      go_wp2_with fail
      refine (mname_any id [112] (k : Int) _ hib (HLD.out.below HW3.out.1.bel)).mono ?_
      rintro e w4 ⟨rfl, hb4⟩
      have hb5 : Below w3.heap.size w3 (w4.alloc (.cells #[.string (Bstr (nmOf id [112] (k : Int))), .slice Ax nl cx] 42)) := hb4.alloc hb4.size _
      have HW5 : Hid (BxM w g4 g7 #[.int .u64 (id : Int), .int .i64 mlv, .int .i64 mst, .int .i64 men, .int .i64 mpg, .int .i64 mtr] #[.int .i64 pg, .int .i64 sh, .int .i64 bi, .int .i64 hs'] (w4.alloc (.cells #[.string (Bstr (nmOf id [112] (k : Int))), .slice Ax nl cx] 42)) ∧ ObR (w4.alloc (.cells #[.string (Bstr (nmOf id [112] (k : Int))), .slice Ax nl cx] 42)) B (.slice Av k cv) (obPages id (ps.take k)) ∧ B ≤ (w4.alloc (.cells #[.string (Bstr (nmOf id [112] (k : Int))), .slice Ax nl cx] 42)).heap.size) := Lib.hid ⟨HW3.out.1.later hb5, HW3.out.2.1.below hb5, Nat.le_trans HW3.out.2.2 hb5.size⟩
      have HLV := Lib.hid (Lv.lit1 w4 [.string (Bstr (nmOf id [112] (k : Int))), .slice Ax nl cx] 42)
      have HK5 : Hid (Keep (fun q => False ∨ (Value.slice Av k cv).ownBlock = some q) (fun u => obE B u ⟨nmOf id [112] (k : Int), pgOf p⟩ [.string (Bstr (nmOf id [112] (k : Int))), .slice Ax nl cx]) (w4.alloc (.cells #[.string (Bstr (nmOf id [112] (k : Int))), .slice Ax nl cx] 42))) := Lib.hid (obE_keep ((HX3.out.below hb5).lower HBr.out) fun q hq hb => by
        have h1 := (World.ownsRow.lt HX3.out q hq).1
        rcases hb with h | h
        · exact h
        · have := HLT.out q h
          omega)
      clear hb4 hb5 HX3 HW3 b0
      go_wp2_with (at_builtin; refine wpList_append_K bobT rfl _ _ rfl rfl HW5.out.2.1 rfl HLV.out HK5.out (by simp [Value.oneCell']) HLO.out (by decide) HW5.out.2.2 ?_)
      intro v6 w6 hO6 hg6 _
      have HW6 : Hid (BxM w g4 g7 #[.int .u64 (id : Int), .int .i64 mlv, .int .i64 mst, .int .i64 men, .int .i64 mpg, .int .i64 mtr] #[.int .i64 pg, .int .i64 sh, .int .i64 bi, .int .i64 hs'] w6 ∧ ObR w6 B v6 (obPages id (ps.take (k + 1))) ∧ B ≤ w6.heap.size) := Lib.hid ⟨HW5.out.1.grown hg6 (fun q hq => (HW5.out.2.1.lt q hq).1) HG.out.1 HG.out.2.1 HG.out.2.2, by rw [HN.out]; exact hO6, Nat.le_trans HW5.out.2.2 hg6.size⟩
      clear hO6 hg6 HW5 HLV HK5
      go_wp2_with fail
      go_roundg gk1
      case measure => omega
      case rel => exact ⟨k + 1, by omega, by go_num, HW6⟩
    · have hkn : k = ps.length := by omega
      subst hkn
      rw [List.take_length] at HW
      obtain ⟨Av, cv, hav, hv1, hv2⟩ := HW.out.2.1.form
      subst hav
      have HLO : Hid ((obPages id ps).length ≤ 1000) := Lib.hid (by rw [obPages_length]; omega)
      rw [obPages_length] at HW hv1 ⊢
      have b0 := HW.out.1.b4.cell 0
      have b1 := HW.out.1.b4.cell 1
      have b2 := HW.out.1.b4.cell 2
      have b3 := HW.out.1.b4.cell 3
      have b4 := HW.out.1.b4.cell 4
      have b5 := HW.out.1.b4.cell 5
      simp at b0 b1 b2 b3 b4 b5
      have hMP := fun u => mput_ok _ HM.out.2 u HM.out.1
      simp only [meV] at hMP
      go_wp2_with fail
      refine (hMP _).mono ?_
      rintro e w3 ⟨mb, rfl, hmb, hb3⟩
      obtain ⟨Am, cm, hmv, _, _⟩ := hmb.form
      subst hmv
      have HB3 := Lib.hid (HW.out.1.later hb3)
      have HO3 := Lib.hid (HW.out.2.1.below hb3)
      have HLT : Hid (∀ q, (Value.slice Av ps.length cv).ownBlock = some q → q < wr.heap.size) := Lib.hid fun q hq => (HW.out.2.1.lt q hq).2
      have HBr : Hid (B ≤ wr.heap.size) := Lib.hid HW.out.2.2
      have HRS : Hid (wr.heap.size ≤ w3.heap.size) := Lib.hid hb3.size
      have HMB := Lib.hid hmb
      generalize (sealedOf (meRaw ⟨(id : Int), mlv, mst, men, mpg, mtr⟩)).length = nm at HMB ⊢
      clear hMP hmb hb3 HW b0 b1 b2 b3 b4 b5
      have hcl : ∀ u, Apt (fun z => (Value.slice Av ps.length cv).ownBlock = some z) w3 u → u.cell? ⟨g4, 0, none⟩ = some (.int .u64 (id : Int)) ∧ u.cell? ⟨g7, 0, none⟩ = some (.int .i64 pg) ∧ u.cell? ⟨g7, 1, none⟩ = some (.int .i64 sh) ∧ u.cell? ⟨g7, 2, none⟩ = some (.int .i64 bi) ∧ u.cell? ⟨g7, 3, none⟩ = some (.int .i64 hs') := fun u hu => by
        have e4 : u.heap[g4]? = w3.heap[g4]? := hu.block g4 HB3.out.b4.lt fun e => by have := (HO3.out.lt g4 e).1; have := HG.out.1; omega
        have e7 : u.heap[g7]? = w3.heap[g7]? := hu.block g7 HB3.out.b7.lt fun e => by have := (HO3.out.lt g7 e).1; have := HG.out.2.1; omega
        have h4 := (show Blk u g4 _ _ from e4.trans HB3.out.b4)
        have h7 := (show Blk u g7 _ _ from e7.trans HB3.out.b7)
        exact ⟨by simpa using h4.cell 0, by simpa using h7.cell 0, by simpa using h7.cell 1, by simpa using h7.cell 2, by simpa using h7.cell 3⟩
      have HLD3 : Hid (∀ u, Below w3.heap.size w3 u → Ld u ∧ Sls TsV u (.slice A' ps.length c') ps ∧ Ts u (.slice A l.length c) l) := Lib.hid fun u hu => by
        have h1 := HB3.out.bel.trans (hu.mono HB3.out.bel.size)
        exact ⟨HLD.out.below h1, sls_ts_below HP.out h1, HL.out.below h1⟩
      go_wp2_with fail
      refine wp_region_mix [(0, false), (1, false), (2, false), (4, false), (7, false), (8, false), (10, false), (11, false), (14, false), (15, false), (17, false), (3, true), (5, true), (6, false), (9, true), (12, true), (13, false), (16, true), (18, false), (19, true), (20, true), (21, true)] (fun u => Apt (fun z => (Value.slice Av ps.length cv).ownBlock = some z) w3 u) (by kernel_rfl) (by kernel_rfl) (by kernel_rfl) rfl (Apt.of_below (Below.refl _ _).drew) ?_
      repeat
        (refine mix_read (o := ⟨_, _, _, _, _, _⟩) (v := ?_) rfl (by rfl) (fun w' hS => ?_) ?_
         rotate_left
         obtain ⟨j0, j1, j2, j3, j4⟩ := hcl w' hS
         go_simp
         with_reducible rfl
         try simp only [Act.put, List.setIfInBounds_toArray, List.set_cons_zero, List.set_cons_succ])
      refine mix_step (o := ⟨_, _, _, _, _, _⟩) rfl (fun K hK => ?_)
      go_simp
      refine (mname_any id [105] 0 _ hib (HLD3.out _ (Below.refl _ _).drew).1).mono ?_
      rintro e w4 ⟨rfl, hb4⟩
      have h4 : Below w3.heap.size w3 w4 := (Below.refl _ w3).drew.trans hb4
      refine hK.out _ _ (Apt.of_below h4) ?_
      clear hK K hb4
      try simp only [Act.put, List.setIfInBounds_toArray, List.set_cons_zero, List.set_cons_succ]
      refine mix_step (o := ⟨_, _, _, _, _, _⟩) rfl (fun K hK => ?_)
      go_simp
      refine (indexed_any _ ps _ (HLD3.out _ h4).2.1 HPB.out HFL.out).mono ?_
      rintro e w5 ⟨yi, rfl, hyi, hb5⟩
      have h5 : Below w3.heap.size w3 w5 := h4.trans (hb5.mono h4.size)
      refine hK.out _ _ (Apt.of_below h5) ?_
      obtain ⟨Ai, ci, hiv, _, _⟩ := hyi.form
      subst hiv
      have HI5 := Lib.hid (hyi.lower h4.size)
      generalize (bkIx ps).length = ni at HI5 ⊢
      clear hyi
      clear hK K hb5
      try simp only [Act.put, List.setIfInBounds_toArray, List.set_cons_zero, List.set_cons_succ]
      refine mix_read (o := ⟨_, _, _, _, _, _⟩) (v := ?_) rfl (by rfl) (fun w' hS => ?_) ?_
      rotate_left
      · go_simp
        with_reducible rfl
      try simp only [Act.put, List.setIfInBounds_toArray, List.set_cons_zero, List.set_cons_succ]
      refine mix_step (o := ⟨_, _, _, _, _, _⟩) rfl (fun K hK => ?_)
      go_simp
      refine (mname_any id [102] 0 _ hib (HLD3.out _ h5).1).mono ?_
      rintro e w6 ⟨rfl, hb6⟩
      have h6 : Below w3.heap.size w3 w6 := h5.trans (hb6.mono h5.size)
      refine hK.out _ _ (Apt.of_below h6) ?_
      clear hK K
      try simp only [Act.put, List.setIfInBounds_toArray, List.set_cons_zero, List.set_cons_succ]
      refine mix_step (o := ⟨_, _, _, _, _, _⟩) rfl (fun K hK => ?_)
      go_simp
      refine (filtered_any _ l ⟨pg, sh, bi, hs'⟩ _ (HLD3.out _ h6).2.2 HS.out).mono ?_
      rintro e w7 ⟨yf, rfl, hyf, hb7⟩
      have h7 : Below w3.heap.size w3 w7 := h6.trans (hb7.mono h6.size)
      refine hK.out _ _ (Apt.of_below h7) ?_
      obtain ⟨Af, cf, hfv, _, _⟩ := hyf.form
      subst hfv
      have HF7 := Lib.hid (hyf.lower h6.size)
      have HI7 := Lib.hid (HI5.out.below (hb6.trans (hb7.mono hb6.size)))
      generalize ((bkFl l ⟨pg, sh, bi, hs'⟩).bytes).length = nf at HF7 ⊢
      clear hyf
      clear hK K hb6 hb7
      try simp only [Act.put, List.setIfInBounds_toArray, List.set_cons_zero, List.set_cons_succ]
      refine mix_read (o := ⟨_, _, _, _, _, _⟩) (v := ?_) rfl (by rfl) (fun w' hS => ?_) ?_
      rotate_left
      · go_simp
        with_reducible rfl
      try simp only [Act.put, List.setIfInBounds_toArray, List.set_cons_zero, List.set_cons_succ]
      refine mix_step (o := ⟨_, _, _, _, _, _⟩) rfl (fun K hK => ?_)
      go_simp
      refine (mname_any id [109] 0 _ hib (HLD3.out _ h7).1).mono ?_
      rintro e w8 ⟨rfl, hb8⟩
      have h8 : Below w3.heap.size w3 w8 := h7.trans (hb8.mono h7.size)
      refine hK.out _ _ (Apt.of_below h8) ?_
      have HI8 := Lib.hid (HI7.out.below hb8)
      have HF8 := Lib.hid (HF7.out.below hb8)
      have HM8 := Lib.hid (HMB.out.below h8)
      have HO8 := Lib.hid (HO3.out.below h8)
      clear hK K hb8
      try simp only [Act.put, List.setIfInBounds_toArray, List.set_cons_zero, List.set_cons_succ]
      refine mix_read (o := ⟨_, _, _, _, _, _⟩) (v := ?_) rfl (by rfl) (fun w' hS => ?_) ?_
      rotate_left
      · go_simp
        with_reducible rfl
      try simp only [Act.put, List.setIfInBounds_toArray, List.set_cons_zero, List.set_cons_succ]
      have hb9 : Below w8.heap.size w8 (w8.alloc (.cells #[.string (Bstr (nmOf id [105] 0)), .slice Ai ni ci, .string (Bstr (nmOf id [102] 0)), .slice Af nf cf, .string (Bstr (nmOf id [109] 0)), .slice Am nm cm] 42)) := (Below.refl _ _).alloc (Nat.le_refl _) _
      have h9 : Below w3.heap.size w3 (w8.alloc (.cells #[.string (Bstr (nmOf id [105] 0)), .slice Ai ni ci, .string (Bstr (nmOf id [102] 0)), .slice Af nf cf, .string (Bstr (nmOf id [109] 0)), .slice Am nm cm] 42)) := h8.alloc h8.size _
      have HO9 := Lib.hid (HO8.out.below hb9)
      have HLV := Lib.hid (Lv.lit3 (w := w8) (.string (Bstr (nmOf id [105] 0))) (.slice Ai ni ci) (.string (Bstr (nmOf id [102] 0))) (.slice Af nf cf) (.string (Bstr (nmOf id [109] 0))) (.slice Am nm cm) 42)
      have HRW : Hid (∀ (v : Value) (y : List UInt8) (n : List UInt8), Own (w8.alloc (.cells #[.string (Bstr (nmOf id [105] 0)), .slice Ai ni ci, .string (Bstr (nmOf id [102] 0)), .slice Af nf cf, .string (Bstr (nmOf id [109] 0)), .slice Am nm cm] 42)) wr.heap.size 5 v y → Keep (fun q => False ∨ (Value.slice Av ps.length cv).ownBlock = some q) (fun u => obE B u ⟨n, y⟩ [.string (Bstr n), v]) (w8.alloc (.cells #[.string (Bstr (nmOf id [105] 0)), .slice Ai ni ci, .string (Bstr (nmOf id [102] 0)), .slice Af nf cf, .string (Bstr (nmOf id [109] 0)), .slice Am nm cm] 42))) := Lib.hid fun v y n hv => obE_keep (hv.lower HBr.out) fun q hq hb => by
        have h1 := (World.ownsRow.lt hv q hq).1
        rcases hb with h | h
        · exact h
        · have := HLT.out q h
          omega
      have HKS : Hid (Two (fun b y => Keep (fun q => False ∨ (Value.slice Av ps.length cv).ownBlock = some q) (fun u => obE B u b y) (w8.alloc (.cells #[.string (Bstr (nmOf id [105] 0)), .slice Ai ni ci, .string (Bstr (nmOf id [102] 0)), .slice Af nf cf, .string (Bstr (nmOf id [109] 0)), .slice Am nm cm] 42))) [⟨nmOf id [105] 0, bkIx ps⟩, ⟨nmOf id [102] 0, (bkFl l ⟨pg, sh, bi, hs'⟩).bytes⟩, ⟨nmOf id [109] 0, sealedOf (meRaw ⟨(id : Int), mlv, mst, men, mpg, mtr⟩)⟩] [[.string (Bstr (nmOf id [105] 0)), .slice Ai ni ci], [.string (Bstr (nmOf id [102] 0)), .slice Af nf cf], [.string (Bstr (nmOf id [109] 0)), .slice Am nm cm]]) := Lib.hid
        (Two.three (HRW.out _ _ (nmOf id [105] 0) ((HI8.out.below hb9).lower HRS.out)) (HRW.out _ _ (nmOf id [102] 0) ((HF8.out.below hb9).lower HRS.out)) (HRW.out _ _ (nmOf id [109] 0) (HM8.out.below hb9)))
      have HB9 := Lib.hid (HB3.out.later h9)
      clear hb9
      refine mix_step (o := ⟨_, _, _, _, _, _⟩) rfl (fun K hK => ?_)
      go_simp
      refine hK.out _ _ (Apt.of_below h9) ?_
      clear hK K
      try simp only [Act.put, List.setIfInBounds_toArray, List.set_cons_zero, List.set_cons_succ]
      refine mix_step (o := ⟨_, _, _, _, _, _⟩) rfl (fun K hK => ?_)
      refine step_append_Ks bobT rfl _ _ rfl rfl HO9.out rfl HLV.out HKS.out (by intro y hy u hu; simp at hy; rcases hy with rfl | rfl | rfl <;> (simp at hu; rcases hu with rfl | rfl <;> rfl)) (by have := HLO.out; simp; omega) (by decide) (Nat.le_trans (Nat.le_trans HBr.out HRS.out) h9.size) ?_
      intro v10 w10 hO10 hg10 _
      have hA10 : Apt (fun z => (Value.slice Av ps.length cv).ownBlock = some z) w3 w10 := (Apt.of_below h9).trans (Apt.of_grown hg10 fun q hq => hq)
      have HB10 := Lib.hid (HB9.out.grown hg10 (fun q hq => (HO9.out.lt q hq).1) HG.out.1 HG.out.2.1 HG.out.2.2)
      have HO10 := Lib.hid (ObR.lower hO10 HG.out.2.2)
      refine hK.out _ _ hA10 ?_
      clear hK K hO10 hg10
      try simp only [Act.put, List.setIfInBounds_toArray, List.set_cons_zero, List.set_cons_succ]
      refine mix_step (o := ⟨_, _, _, _, _, _⟩) rfl (fun K hK => ?_)
      go_simp
      refine hK.out _ _ hA10 ?_
      clear hK K
      refine mix_done ?_
      try go_wp2_with fail
      go_ret
      exact ⟨_, rfl, HO10.out, HB10.out.bel⟩

end Go.Proofs.YtnghpcfdgjkokaaGreatDoor

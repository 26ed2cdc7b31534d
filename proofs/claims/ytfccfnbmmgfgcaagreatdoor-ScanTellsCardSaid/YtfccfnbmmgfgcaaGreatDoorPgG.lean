/-
  CONTRACT of the document's own Paged. Conditions: what it says.
-/
import Derived.Test.YtfccfnbmmgfgcaaGreatDoorPgA
namespace Go.Proofs.YtfccfnbmmgfgcaaGreatDoor
open Go.RowKit Go.Maps
set_option maxRecDepth 100000

structure PagedP (w : World) (x : List UInt8) (l : Value) (e : Int) : Prop where
  short : x.length < 4 → l = .slice none 0 0 ∧ e = 2
  sum : 4 ≤ x.length → tailOf x ≠ crcOf (bodyOf x) → l = .slice none 0 0 ∧ e = 7
  form : 4 ≤ x.length → tailOf x = crcOf (bodyOf x) → (∀ m, ValP m → pgBody m ≠ bodyOf x) → l = .slice none 0 0 ∧ e = 2
  yes : ∀ m, 4 ≤ x.length → tailOf x = crcOf (bodyOf x) → ValP m → pgBody m = bodyOf x → e = 0 ∧ Ts w l m

theorem PagedP.no_ {w : World} {x : List UInt8} (h4 : ¬ x.length < 4) (he : tailOf x = crcOf (bodyOf x)) (hn : ∀ m, ValP m → pgBody m ≠ bodyOf x) : PagedP w x (.slice none 0 0) 2 :=
  ⟨fun h => absurd h h4, fun _ h => absurd he h, fun _ _ _ => ⟨rfl, rfl⟩, fun m _ _ hv he => absurd he (hn m hv)⟩

structure PagedK (B : Nat) (w : World) (x : List UInt8) (l : Value) (e : Int) : Prop where
  pp : PagedP w x l e
  own : ∀ m, 4 ≤ x.length → tailOf x = crcOf (bodyOf x) → ValP m → pgBody m = bodyOf x → OwnK 2 w B 43 (fun q => q < B) TnC l m
theorem PagedK.no_ {B : Nat} {w : World} {x : List UInt8} (h4 : ¬ x.length < 4) (he : tailOf x = crcOf (bodyOf x)) (hn : ∀ m, ValP m → pgBody m ≠ bodyOf x) : PagedK B w x (.slice none 0 0) 2 :=
  ⟨PagedP.no_ h4 he hn, fun m _ _ hv he => absurd he (hn m hv)⟩

set_option maxHeartbeats 3200000 in
theorem Paged_own (v : Value) (x : List UInt8) (w : World) (h : Bs w v x) (hl : x.length ≤ 140737488355320) :
    Calls Tryz.prog 52 #[v] w fun e w' => ∃ l n, e = .returned (.tuple #[l, .int .i64 n]) ∧ PagedK w.heap.size w' x l n ∧ Below w.heap.size w w' := by
  by_cases h4 : x.length < 4
  · go_enter Tryz.func52, Tryz.ntmps52
    go_wp2_with fail
    refine (Open_short x v _ h4 h).mono ?_
    rintro e w1 ⟨rfl, rfl⟩
    go_wp2_with fail
    go_ret2
    exact ⟨_, _, rfl, ⟨⟨fun _ => ⟨rfl, rfl⟩, fun h => absurd h (by omega), fun h => absurd h (by omega), fun _ h => absurd h (by omega)⟩, fun _ h => absurd h (by omega)⟩, Below.refl _ _⟩
  · have hx4 : 4 ≤ x.length := by omega
    go_enter Tryz.func52, Tryz.ntmps52
    go_wp2_with fail
    refine (Open_long x v _ hx4 hl h).mono ?_
    rintro e w1 ⟨bv, f, rfl, hO, hb1⟩
    by_cases heq : tailOf x = crcOf (bodyOf x)
    · obtain ⟨rfl, hbs⟩ := hO.yes heq
      have HE := Lib.hid heq
      have hbl : (bodyOf x).length ≤ 140737488355328 := by rw [bodyOf_length]; omega
      clear hO heq
      obtain ⟨b, hb⟩ : ∃ b, b = bodyOf x := ⟨_, rfl⟩
      rw [← hb] at hbs hbl
      have HBE := Lib.hid hb
      clear hb
      have HB := Lib.hid hbs
      obtain ⟨A, c, rfl, hc1, hc2, hr⟩ := hbs
      have hR0 : RR (w1.alloc (.cells #[.slice A b.length c, .int .i64 0, .int .i64 (-1)] 147)) w1.heap.size (.slice A b.length c) b 0 false :=
        ⟨Blk.new _ _ _, HB.out.alloc _, Nat.zero_le _, fun hb e => by
          obtain ⟨k, hk, hk'⟩ := HB.out.block hb
          rw [e] at hk
          injection hk
          omega, hbl⟩
      have hb0 : Below w1.heap.size w1 (w1.alloc (.cells #[.slice A b.length c, .int .i64 0, .int .i64 (-1)] 147)) := (Below.refl _ _).alloc (Nat.le_refl _) _
      have HRR := Lib.hid hr
      clear hr
      by_cases h2 : b.length < 2
      · have hbad : wordOk b 0 false 2 = false := by simp [wordOk, isW]; omega
        have HBAD := Lib.hid hbad
        have HNO : Hid (∀ m, ValP m → pgBody m ≠ bodyOf x) := Lib.hid fun m _ e => by
          have := pgBody_ge m
          rw [e, ← HBE.out] at this
          omega
        clear hbad
        go_wp2_with fail
        refine (Word_no _ _ b _ _ _ hR0 HBAD.out).mono ?_
        rintro e w2 ⟨rfl, hW2, hg2⟩
        have hB2 := hb0.grown hg2 hb0.size (by intro k hk; injection hk; omega)
        have hB2' := hb1.trans (hB2.mono hb1.size)
        have k2 := hW2.blk.cell 2
        simp [badAt] at k2
        clear hg2 hB2
        go_wp2_with fail
        refine wp_loop_rounds 1 ?_
        rw [rounds_succ]
        go_wp2_with fail
        refine (Is_any _ [] _ (Ts.nil _)).mono ?_
        rintro e w3 ⟨rfl, hb3⟩
        have hB3 := hB2'.trans (hb3.mono hB2'.size)
        replace k2 := (hb3.cell hW2.blk.lt).trans k2
        generalize isB [] = bb
        go_wp2_with fail
        go_ret2
        exact ⟨_, _, rfl, PagedK.no_ h4 HE.out HNO.out, hB3⟩
      · obtain ⟨n, hn⟩ : ∃ n, n = num (b.take 2) := ⟨_, rfl⟩
        have hn2 : num ((b.drop 0).take (Int.toNat 2)) = n := by rw [hn]; rfl
        have hok : wordOk b 0 false 2 = true := by simp [wordOk, isW]; omega
        have hnl : n < 65536 := by
          have h1 := num_lt (b.take 2)
          have h3 : (b.take 2).length ≤ 2 := by rw [List.length_take]; omega
          have hp := Nat.pow_le_pow_right (show 0 < 256 by omega) h3
          have : (256 : Nat) ^ 2 = 65536 := by decide
          omega
        have hnw : wrap64 (n : Int) = (n : Int) := IntWalk.wrap64_in _ ⟨by omega, by omega⟩
        have HN := Lib.hid hn
        have HN2 := Lib.hid hn2
        have HOK := Lib.hid hok
        have hst : Hid (PgAt b n 0 2 []) := Lib.hid (by rw [hn]; exact PgAt.start (by omega))
        clear hn hn2 hok
        go_wp2_with fail
        refine (Word_yes _ _ b _ _ _ hR0 HOK.out).mono ?_
        rintro e w2 ⟨rfl, hW2, hg2⟩
        rw [HN2.out]
        have hB2 := hb0.grown hg2 hb0.size (by intro k hk; injection hk; omega)
        have hW2' : RR w2 w1.heap.size (.slice A b.length c) b 2 false := hW2
        have HW2 := Lib.hid hW2'
        clear hg2 hW2 hW2' hb0 hR0
        go_wp2_with fail
        clear hnw
        go_loopw [8, 9] (fun lv i wr => ∃ (k q : Nat) (o : List Tn), k ≤ n ∧ i = .int .i64 (k : Int) ∧ Hid (PgAt b n k q o) ∧ OwnK 2 wr (w1.heap.size + 1) 43 (fun g => g ≤ w1.heap.size) TnC lv o ∧ RR wr w1.heap.size (.slice A b.length c) b q false ∧ Below w1.heap.size w1 wr) (fun _ i _ => n - (intOf i).toNat)
        case atStart => exact ⟨0, 2, [], Nat.zero_le _, rfl, hst, OwnK.nil _ _ _ _ _ _, HW2.out, hB2⟩
        case round =>
          obtain ⟨k, q, o, hk, rfl, HP, hO, hW, hB⟩ := hrel
          have hWle := hW.le
          have hWlt := hW.blk.lt
          have hzB := hB.size
          by_cases hlt : k < n
          · have hol : Hid (o.length = k) := Lib.hid HP.out.len
            by_cases h12 : b.length < q + 12
            · have hbad : wordOk b (wNext b q false 8) (!wordOk b q false 8) 4 = false := by
                by_cases h8 : b.length < q + 8
                · have : ¬ ((8 : Int) ≤ (b.length : Int) - q) := by omega
                  simp [wordOk, wNext, isW, this]
                · have : (8 : Int) ≤ (b.length : Int) - q := by omega
                  simp [wordOk, wNext, isW, this]
                  omega
              have HBAD := Lib.hid hbad
              have HNO : Hid (∀ m, ValP m → pgBody m ≠ bodyOf x) := Lib.hid (by
                rw [← HBE.out]
                exact HP.out.none hlt (.inl h12))
              clear hbad hO
              go_wp2_with fail
              refine (Word_all _ _ b _ _ _ _ hW).mono ?_
              rintro e w3 ⟨rfl, hW3, hg3⟩
              have hB3 := hB.grown hg3 hzB (by intro k hk; injection hk; omega)
              go_wp2_with fail
              refine (Word_all _ _ b _ _ _ _ hW3).mono ?_
              rintro e w4 ⟨rfl, hW4, hg4⟩
              have hB4 := hB3.grown hg4 hB3.size (by intro k hk; injection hk; omega)
              have hB4' := hb1.trans (hB4.mono hb1.size)
              rw [HBAD.out] at hW4
              have k2 := hW4.blk.cell 2
              simp [badAt] at k2
              generalize wrap64 ((wOut b (wNext b q false 8) (!wordOk b q false 8) 4 : Nat) : Int) = z at *
              clear hg3 hg4 hW3
              go_wp2_with fail
              go_ret2
              exact ⟨_, _, rfl, PagedK.no_ h4 HE.out HNO.out, hB4'⟩
            · obtain ⟨i, hi⟩ : ∃ i, i = num ((b.drop q).take 8) := ⟨_, rfl⟩
              obtain ⟨m, hm⟩ : ∃ m, m = num ((b.drop (q + 8)).take 4) := ⟨_, rfl⟩
              have hi2 : num ((b.drop q).take (Int.toNat 8)) = i := by rw [hi]; rfl
              have hm2 : num ((b.drop (q + Int.toNat 8)).take (Int.toNat 4)) = m := by rw [hm]; rfl
              have hil : i < 18446744073709551616 := by rw [hi]; exact nxId_lt _
              have hml : m < 4294967296 := by
                have := nxMany_lt (b.drop q)
                rw [nxMany, List.drop_drop, ← hm] at this
                exact this
              have ok8 : wordOk b q false 8 = true := by simp [wordOk, isW]; omega
              have ok4 : wordOk b (q + Int.toNat 8) false 4 = true := by simp [wordOk, isW]; omega
              have hmw : wrap64 (m : Int) = (m : Int) := IntWalk.wrap64_in _ ⟨by omega, by omega⟩
              have HI := Lib.hid hi
              have HM := Lib.hid hm
              have HI2 := Lib.hid hi2
              have HM2 := Lib.hid hm2
              have HIL := Lib.hid hil
              have OK8 := Lib.hid ok8
              have OK4 := Lib.hid ok4
              have HOo := Lib.hid hO
              have HOlt := Lib.hid hO.lt
              clear hi hm hi2 hm2 ok8 ok4 hil hO
              go_wp2_with fail
              refine (Word_yes _ _ b _ _ _ hW OK8.out).mono ?_
              rintro e w3 ⟨rfl, hW3, hg3⟩
              rw [HI2.out]
              have hB3 := hB.grown hg3 hzB (by intro k hk; injection hk; omega)
              have hO3 := HOo.out.kept (bad' := fun g => g ≤ w1.heap.size) hg3 (by
                cases hq : u8.ownBlock with
                | none => exact .inl rfl
                | some z => exact .inr fun e => by injection e with e; have := (HOlt.out z hq).1; omega) (fun z hz => by injection hz with hz; omega) (fun _ h => .inl h)
              go_wp2_with fail
              refine (Word_yes _ _ b _ _ _ hW3 OK4.out).mono ?_
              rintro e w4 ⟨rfl, hW4, hg4⟩
              rw [HM2.out]
              have hB4 := hB3.grown hg4 hB3.size (by intro k hk; injection hk; omega)
              have hO4 := hO3.kept (bad' := fun g => g ≤ w1.heap.size) hg4 (by
                cases hq : u8.ownBlock with
                | none => exact .inl rfl
                | some z => exact .inr fun e => by injection e with e; have := (HOlt.out z hq).1; omega) (fun z hz => by injection hz with hz; omega) (fun _ h => .inl h)
              have hW4' : RR w4 w1.heap.size (.slice A b.length c) b (q + 12) false := hW4
              have HW4 := Lib.hid hW4'
              have HO4 := Lib.hid hO4
              have HB4 := Lib.hid hB4
              have k1 := hW4'.blk.cell 1
              have k2 := hW4'.blk.cell 2
              simp [badAt] at k1 k2
              have hql : q + 12 ≤ b.length := by omega
              have hzW : wr.heap.size ≤ w4.heap.size := Nat.le_trans hg3.size hg4.size
              clear hg3 hg4 hW3 hW4 hW4' hB3 hO3 hO4 HOo
              by_cases hlm : b.length < q + 12 + m
              · have HNO : Hid (∀ m, ValP m → pgBody m ≠ bodyOf x) := Lib.hid (by
                  rw [← HBE.out]
                  exact HP.out.none hlt (.inr (.inl (by rw [← HM.out]; exact hlm))))
                have hB4' := hb1.trans (hB4.mono hb1.size)
                clear hB4
                go_wp2_with fail
                go_ret2
                exact ⟨_, _, rfl, PagedK.no_ h4 HE.out HNO.out, hB4'⟩
              · have hmq : q + 12 + m ≤ b.length := by omega
                obtain ⟨V, hs1, hV, _⟩ := slice_bytes (P := Tryz.prog) w1 byteT elemB HRR.out hc1 hc2 (q + 12) (q + 12 + m) (by omega) hmq ((q : Int) + 12) ((q : Int) + 12 + (m : Int)) (by omega) (by omega)
                have hlen : q + 12 + m - (q + 12) = m := by omega
                rw [hlen] at hV
                have HV := Lib.hid hV
                have hS := fun u (hu : Below w4.heap.size w4 u) => SRead_acc V ((b.drop (q + 12)).take m) u ((HV.out.below HB4.out).below hu) (by rw [List.length_take]; omega)
                have r1 : ∀ u, Below w4.heap.size w4 u → u.cell? ⟨w1.heap.size, 1, none⟩ = some (.int .i64 ((q : Int) + 12)) := fun u hu => (hu.cell HW4.out.blk.lt).trans k1
                have HMQ := Lib.hid hmq
                clear hV hlen hB4
                go_wp2_with fail
                clear k1 k2
                have hwr : IntKind.i64.wrap ((q : Int) + 12 + (m : Int)) = (q : Int) + 12 + (m : Int) := IntWalk.i64_in _ (by omega)
                refine wp_region_mix [(0, false), (1, false), (2, false), (3, false), (4, false), (5, false), (6, false), (7, false), (8, false), (9, false), (10, false), (11, false), (12, true), (13, true), (14, false), (15, false), (16, true), (17, true)] (fun u => Below w4.heap.size w4 u) (by kernel_rfl) (by kernel_rfl) (by kernel_rfl) rfl (Below.refl _ _).drew ?_
                repeat
                  (refine mix_read (o := ⟨_, _, _, _, _, _⟩) (v := ?_) rfl (by rfl) (fun w' hS => ?_) ?_
                   rotate_left
                   go_simp
                   with_reducible rfl
                   try simp only [Act.put, List.setIfInBounds_toArray, List.set_cons_zero, List.set_cons_succ])
                refine mix_step (o := ⟨_, _, _, _, _, _⟩) rfl (fun K hK => ?_)
                go_simp
                refine (hS _ (Below.refl _ _).drew).mono ?_
                rintro e w5 ⟨y, at_, rfl, hA, hb5⟩
                have hU : Below w4.heap.size w4 w5 := ⟨hb5.os, hb5.tape, hb5.output, hb5.size, hb5.block⟩
                refine hK.out _ _ hU ?_
                clear hK K
                try simp only [Act.put, List.setIfInBounds_toArray, List.set_cons_zero, List.set_cons_succ]
                refine mix_step (o := ⟨_, _, _, _, _, _⟩) rfl (fun K hK => ?_)
                go_simp
                refine hK.out _ _ hU ?_
                clear hK K
                try simp only [Act.put, List.setIfInBounds_toArray, List.set_cons_zero, List.set_cons_succ]
                repeat
                  (refine mix_read (o := ⟨_, _, _, _, _, _⟩) (v := ?_) rfl (by rfl) (fun w' hS => ?_) ?_
                   rotate_left
                   go_simp
                   with_reducible rfl
                   try simp only [Act.put, List.setIfInBounds_toArray, List.set_cons_zero, List.set_cons_succ])
                repeat
                  (refine mix_step (o := ⟨_, _, _, _, _, _⟩) rfl (fun K hK => ?_)
                   go_simp
                   refine hK.out _ _ hU ?_
                   clear hK K
                   try simp only [Act.put, List.setIfInBounds_toArray, List.set_cons_zero, List.set_cons_succ])
                refine mix_done ?_
                have hW5 := HW4.out.below hU
                have hO5 := HO4.out.below hU
                have hB5 := HB4.out.trans (hU.mono HB4.out.size)
                clear r1 hs1 hS hb5
                cases hg : getS 65535 ((b.drop (q + 12)).take m) with
                | error p =>
                  obtain rfl := hA.no p hg
                  have HNO : Hid (∀ m, ValP m → pgBody m ≠ bodyOf x) := Lib.hid (by
                    rw [← HBE.out]
                    refine HP.out.none hlt (.inr (.inr fun sp hok e => ?_))
                    rw [← HM.out] at e
                    have h1 := get_enc 65535 (by decide) sp hok.1 hok.2.1 hok.2.2
                    rw [e, hg] at h1
                    cases h1)
                  have hB5' := hb1.trans (hB5.mono hb1.size)
                  clear hg hA hW5 hO5 hB5
                  go_wp2_with fail
                  go_ret2
                  exact ⟨_, _, rfl, PagedK.no_ h4 HE.out HNO.out, hB5'⟩
                | ok sp =>
                  obtain ⟨rfl, hAc⟩ := hA.yes sp hg
                  obtain ⟨e1, e2, e3⟩ := enc_get 65535 _ sp hg
                  have HG := Lib.hid (HP.out.go encS_inj hlt (sp := sp) (many := m) HMQ.out HM.out.symm e3 ⟨e1, hAc.ok, e2⟩)
                  rw [← HI.out] at HG
                  obtain ⟨Ad, cd, hdv, _⟩ := hAc.ss.form
                  have hKd : Keep (fun g => g ≤ w1.heap.size ∨ u8.ownBlock = some g) (fun u => TnC u ⟨(i : Int), sp⟩ [.int .u64 (i : Int), y]) w5 := fun u ha =>
                    ⟨⟨by show (0 : Int) ≤ (i : Int); omega, by show (i : Int) ≤ _; have := HIL.out; omega⟩, y, rfl, (hAc.keep (bad := fun g => g ≤ w1.heap.size ∨ u8.ownBlock = some g) fun g hg => by
                      have hsz : wr.heap.size ≤ w4.drew.heap.size := hzW
                      rcases hg with hg | hg
                      · omega
                      · have := (HOlt.out g hg).2
                        omega) u ha⟩
                  have ha1 : Below w5.heap.size w5 (w5.alloc (.cells #[.int .u64 (i : Int), y] 43)) := (Below.refl _ _).alloc (Nat.le_refl _) _
                  have HO6 := Lib.hid (hO5.below ha1)
                  have HK6 := Lib.hid (hKd.below ha1)
                  have HW6 := Lib.hid (hW5.below ha1)
                  have HB6 := Lib.hid (hB5.trans (ha1.mono hB5.size))
                  have HLV := Lib.hid (Lv.lit1 w5 [.int .u64 (i : Int), y] 43)
                  have hzs : w1.heap.size + 1 ≤ (w5.alloc (.cells #[.int .u64 (i : Int), y] 43)).heap.size := Nat.le_trans (Nat.succ_le_of_lt (Nat.lt_of_lt_of_le hWlt (Nat.le_trans hzW hU.size))) ha1.size
                  have HZS := Lib.hid hzs
                  have HOL := Lib.hid (show ∀ g, u8.ownBlock = some g → w1.heap.size + 1 ≤ g from fun g hg => (HOlt.out g hg).1)
                  clear hg hA hW5 hO5 hB5 hKd ha1 hAc hzs e1 e2 e3 hU HP HOlt HO4 HW4 HB4 hW hB
                  subst hdv
                  go_wp2_with (at_builtin; refine wpList_append_K trT rfl _ _ rfl rfl HO6.out rfl HLV.out HK6.out (by simp [Value.oneCell']) (by have := hol.out; omega) (by decide) HZS.out ?_)
                  intro v7 w7 hO7 hg7 hv7
                  have hne : some w1.heap.size ≠ u8.ownBlock := fun e => by have := HOL.out _ e.symm; omega
                  have hvn : b ≠ [] → (Value.slice A b.length c).ownBlock ≠ u8.ownBlock := fun hb e => by
                    obtain ⟨k', hk1, hk2⟩ := HB.out.block hb
                    have := HOL.out k' (e ▸ hk1)
                    omega
                  have hW7 := HW6.out.grown hg7 hne hvn
                  have hB7 := HB6.out.grown hg7 HB6.out.size (fun g hg => by have := HOL.out g hg; omega)
                  have k1 := hW7.blk.cell 1
                  have f1 := hW7.blk.frozen 1
                  simp at k1
                  have HO7 := Lib.hid hO7
                  have HW7 := Lib.hid hW7
                  have HB7 := Lib.hid hB7
                  clear hO7 hW7 hB7 hg7
                  go_wp2_with fail
                  have hgs := grown_set w7 w1.heap.size 1 (.int .i64 ((q : Int) + 12 + (m : Int)))
                  have h7 : v7.ownBlock = none ∨ v7.ownBlock ≠ some w1.heap.size := by
                    cases hq : v7.ownBlock with
                    | none => exact .inl rfl
                    | some z => exact .inr fun e => by injection e with e; have := (HO7.out.lt z hq).1; omega
                  refine ⟨⟨k + 1, q + 12 + m, o ++ [⟨(i : Int), sp⟩], by omega, by go_num, HG, HO7.out.kept hgs h7 (fun z hz => by injection hz with hz; omega) (fun _ h => .inl h), HW7.out.setAt (q + 12 + m) HMQ.out _ (by omega), HB7.out.grown hgs HB7.out.size (fun z hz => by injection hz with hz; omega)⟩, by simp [intOf]; omega⟩
          · have hkn : k = n := by omega
            subst hkn
            have HT := Lib.hid hO.ts
            have HKE : Hid (OwnK 2 wr w.heap.size 43 (fun q => q < w.heap.size) TnC u8 o) := Lib.hid ((OwnK.less hO (bad' := fun q => q < w.heap.size) fun q hq => .inl (by have := hb1.size; omega)).lower (by have := hb1.size; omega))
            have HD := Lib.hid HP.out.done
            have HW := Lib.hid hW
            have HBB := Lib.hid (hb1.trans (hB.mono hb1.size))
            have HOL := Lib.hid HP.out.len
            clear hO hW hB HP
            go_wp2_with fail
            refine (Is_any _ o _ HT.out).mono ?_
            rintro e w3 ⟨rfl, hb3⟩
            have hB3 := HBB.out.trans (hb3.mono HBB.out.size)
            have hW3 := HW.out.below hb3
            have k1 := hW3.blk.cell 1
            have k2 := hW3.blk.cell 2
            simp [badAt] at k1 k2
            have HT3 := Lib.hid (HT.out.below hb3)
            have HKE3 := Lib.hid (HKE.out.below hb3)
            clear hb3 hW3 HT
            by_cases hq : q < b.length
            · have HNO : Hid (∀ m, ValP m → pgBody m ≠ bodyOf x) := Lib.hid (by
                rw [← HBE.out]
                intro m hv he
                have := (HD.out.2 m hv he).2
                omega)
              generalize isB o = bb
              go_wp2_with fail
              go_ret2
              exact ⟨_, _, rfl, PagedK.no_ h4 HE.out HNO.out, hB3⟩
            · have hqe : q = b.length := by omega
              have HQE := Lib.hid hqe
              by_cases h64 : 64 < k
              · have HNO : Hid (∀ m, ValP m → pgBody m ≠ bodyOf x) := Lib.hid (by
                  rw [← HBE.out]
                  intro m hv he
                  have h1 := (HD.out.2 m hv he).1
                  have h3 := hv.most
                  have h5 := HOL.out
                  rw [h1] at h3
                  omega)
                clear hqe
                generalize isB o = bb
                go_wp2_with fail
                go_ret2
                exact ⟨_, _, rfl, PagedK.no_ h4 HE.out HNO.out, hB3⟩
              · cases hi : isB o with
                | false =>
                  have HNO : Hid (∀ m, ValP m → pgBody m ≠ bodyOf x) := Lib.hid (by
                    rw [← HBE.out]
                    intro m hv he
                    have h1 := (HD.out.2 m hv he).1
                    subst h1
                    have h3 := isB_true hv.is
                    rw [hi] at h3
                    cases h3)
                  clear hqe hi
                  go_wp2_with fail
                  go_ret2
                  exact ⟨_, _, rfl, PagedK.no_ h4 HE.out HNO.out, hB3⟩
                | true =>
                  have HV : Hid (ValP o) := Lib.hid (HT3.out.valP (pgB_iff.2 ⟨by rw [HOL.out]; omega, by
                    rcases Classical.em (IsT o) with h | h
                    · exact h
                    · rw [isB_false h] at hi; cases hi⟩))
                  clear hqe hi
                  go_wp2_with fail
                  go_ret2
                  refine ⟨_, _, rfl, ⟨⟨fun h => absurd h h4, fun _ h => absurd HE.out h, fun _ _ hn => absurd (HBE.out ▸ HD.out.1 HQE.out) (hn o HV.out), fun m _ _ hv he => ?_⟩, fun m _ _ hv he => ?_⟩, hB3⟩
                  · rw [← HBE.out] at he
                    have e := (HD.out.2 m hv he).1
                    subst e
                    exact ⟨rfl, HT3.out⟩
                  · rw [← HBE.out] at he
                    have e := (HD.out.2 m hv he).1
                    subst e
                    exact HKE3.out
    · obtain ⟨rfl, rfl⟩ := hO.no heq
      have HE := Lib.hid heq
      clear hO heq
      go_wp2_with fail
      go_ret2
      exact ⟨_, _, rfl, ⟨⟨fun h => absurd h h4, fun _ _ => ⟨rfl, rfl⟩, fun _ h => absurd h HE.out, fun _ _ h => absurd h HE.out⟩, fun _ _ h => absurd h HE.out⟩, hb1⟩

end Go.Proofs.YtfccfnbmmgfgcaaGreatDoor

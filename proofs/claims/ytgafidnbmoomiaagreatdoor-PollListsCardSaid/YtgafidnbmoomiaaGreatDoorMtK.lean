/-
  CONTRACTS of strconv.ParseUint at the base 16 and 64 bits, of sixteen bytes. Conditions: what each says; of the library's variables: Ld.
  CONTRACT of the program's Parse; the head of layer 13's statements. Conditions: what each says; of the library's variables: Ld.
-/
import Derived.Test.YtgafidnbmoomiaaGreatDoorMtL
import Derived.Test.YtgafidnbmoomiaaGreatDoorMore
import Derived.Test.YtgafidnbmoomiaaGreatDoorMtA
namespace Go.Proofs.YtgafidnbmoomiaaGreatDoor
open Go.RowKit
set_option maxRecDepth 100000

def HexC (c : UInt8) : Prop := ∃ x, x < 16 ∧ c = dchar x

theorem HexC.cases {c : UInt8} (h : HexC c) : (48 ≤ c.toNat ∧ c.toNat ≤ 57 ∧ dval c = c.toNat - 48) ∨ (97 ≤ c.toNat ∧ c.toNat ≤ 102 ∧ dval c = c.toNat - 87) := by
  obtain ⟨x, hx, rfl⟩ := h
  rw [dval_dchar x hx, dchar_toNat x hx]
  split <;> omega

theorem hex_digs (m k : Nat) : ∀ c ∈ digs 16 m k, HexC c := by
  induction k generalizing m with
  | zero => intro c hc; cases hc
  | succ k ih =>
    intro c hc
    rw [digs, List.mem_append] at hc
    rcases hc with hc | hc
    · exact ih _ c hc
    · rw [List.mem_singleton] at hc
      exact ⟨m % 16, Nat.mod_lt _ (by omega), hc⟩

theorem lower_nat (c : Nat) (h : c < 256) : ∃ L : Nat, bits .or .u8 (c : Int) 32 = (L : Int) ∧ L < 256 ∧ (97 ≤ c → c ≤ 102 → L = c) := by
  refine ⟨c ||| 32, u8_or_nat c 32 h (by omega), ?_, fun h1 h2 => ?_⟩
  · exact Nat.or_lt_two_pow (n := 8) h (by omega)
  · have : ∀ k : Fin 6, (97 + k.val) ||| 32 = 97 + k.val := by decide
    have := this ⟨c - 97, by omega⟩
    rw [show 97 + (c - 97) = c by omega] at this
    exact this

set_option maxHeartbeats 6400000 in
theorem ipu_any (s : List UInt8) (w : World) (h : s.length = 16) :
    Calls Tryz.prog 89 #[.string (Bstr s), .int .i64 16, .int .i64 64] w fun e w' => ∃ (n : Nat) (x : Value), e = .returned (.tuple #[.int .u64 (n : Int), x]) ∧ (x = .nilIface ∨ x = .iface 184 (.int .i64 2)) ∧ n < 18446744073709551616 ∧ ((∀ c ∈ s, HexC c) → n = valD 16 s) ∧ Below w.heap.size w w' := by
  have hsz : (Bstr s).size = 16 := by rw [Bstr_size, h]
  have hne : ((Bstr s).toList == []) = false := by
    rw [BSlist, beq_eq_false_iff_ne]
    intro e
    rw [e] at h
    cases h
  obtain ⟨G, W, hcv, hG1, hG2, hb, hlt, hcell⟩ := bytesOf s w (by omega)
  rw [h] at hcv
  have HC := Lib.hid hcell
  have HB := Lib.hid hb
  have HS := Lib.hid h
  clear hcell hb hlt hG1 hG2 h
  go_enter Tryz.func89, Tryz.ntmps89
  go_wp2_with fail
  have hw0 : IntKind.u64.wrap 18446744073709551616 = 0 := by decide
  have hw1 : IntKind.u64.wrap (-1) = 18446744073709551615 := by decide
  go_loopg [12, 13, 101] 16 (fun gk bv nv iv wr => ∃ (k n : Nat), k + gk = 16 ∧ bv = .bool false ∧ nv = .int .u64 (n : Int) ∧ iv = .int .i64 (k : Int) ∧ wr = W ∧ Hid (n < 16 ^ k ∧ ((∀ c ∈ s.take k, HexC c) → n = valD 16 (s.take k))))
  case atStart => exact ⟨0, 0, by omega, rfl, rfl, rfl, rfl, Lib.hid ⟨by decide, fun _ => rfl⟩⟩
  case round =>
    obtain ⟨k, n, hk, rfl, rfl, rfl, rfl, HM⟩ := hrel
    by_cases hkl : k < 16
    · obtain ⟨gk1, hgk1⟩ : ∃ x, gk = x + 1 := ⟨gk - 1, by omega⟩
      obtain ⟨cc, hcc⟩ : ∃ c, s[k]? = some c := ⟨_, List.getElem?_eq_getElem (by rw [HS.out]; exact hkl)⟩
      have hcell := (HC.out k cc hcc).1
      have HT : Hid (s.take (k + 1) = s.take k ++ [cc]) := Lib.hid (by rw [List.take_add_one, hcc]; rfl)
      have HX : Hid (HexC cc → (48 ≤ cc.toNat ∧ cc.toNat ≤ 57 ∧ dval cc = cc.toNat - 48) ∨ (97 ≤ cc.toNat ∧ cc.toNat ≤ 102 ∧ dval cc = cc.toNat - 87)) := Lib.hid fun h => h.cases
      have HMem : Hid (cc ∈ s) := Lib.hid (List.mem_of_getElem? hcc)
      have hc : cc.toNat < 256 := cc.toNat_lt
      have hv : n < 1152921504606846976 := Nat.lt_of_lt_of_le HM.out.1 (Nat.le_trans (Nat.pow_le_pow_right (by omega) (show k ≤ 15 by omega)) (by decide))
      have hN0 : (0 : Int) ≤ (n : Int) := by omega
      have hN1 : (n : Int) < 1152921504606846976 := by omega
      clear hv
      generalize hNN : (n : Int) = N at *
      have HNN := Lib.hid hNN
      clear hNN
      generalize cc.toNat = c at *
      obtain ⟨L, hL, hL1, hL2⟩ := lower_nat c (by omega)
      have HL2 := Lib.hid hL2
      clear hcc hL2
      -- what the next round is owed
      have HREL : Hid (∀ D : Nat, D < 16 → (HexC cc → dval cc = D) → n * 16 + D < 16 ^ (k + 1) ∧ ((∀ c ∈ s.take (k + 1), HexC c) → n * 16 + D = valD 16 (s.take (k + 1)))) := Lib.hid fun D hD hDD => by
        refine ⟨?_, fun hall => ?_⟩
        · have := HM.out.1
          rw [Nat.pow_succ]
          generalize 16 ^ k = P at *
          omega
        · rw [HT.out, valD_snoc, ← HM.out.2 fun c hc => hall c (by rw [HT.out]; exact List.mem_append_left _ hc), hDD (hall cc (by rw [HT.out]; simp))]
          omega
      by_cases h12 : 48 ≤ c ∧ c ≤ 57
      · obtain ⟨h1, h2⟩ := h12
        clear hL hL1
        go_wp2_with fail
        go_roundg gk1
        case measure => omega
        case rel =>
          obtain ⟨r1, r2⟩ := HREL.out (c - 48) (by omega) (fun h => by have := HX.out h; omega)
          refine ⟨k + 1, n * 16 + (c - 48), by omega, rfl, ?_, by go_num, rfl, Lib.hid ⟨r1, r2⟩⟩
          congr 1
          have := HNN.out
          omega
      · have hcase : (L < 97 ∨ 122 < L) ∨ (97 ≤ L ∧ 102 < L ∧ L ≤ 122) ∨ (97 ≤ L ∧ L ≤ 102) := by omega
        have hside : c < 48 ∨ 57 < c := by omega
        clear h12
        rcases hside with hsd | hsd <;> rcases hcase with (hLL | hLL) | ⟨hL3, hL4, hL5⟩ | ⟨hL3, hL4⟩
        all_goals
          go_wp2_with (first | (go_at_call 114; refine (lower_any _ _).mono ?_; rintro e w1 ⟨rfl, rfl⟩) | fail)
        all_goals
          first
          | (go_roundg gk1
             case measure => omega
             case rel =>
               obtain ⟨r1, r2⟩ := HREL.out (L - 87) (by omega) (fun h => by
                 have h1 := HX.out h
                 have h2 := HL2.out
                 rcases h1 with h1 | h1
                 · omega
                 · have := h2 h1.1 h1.2.1
                   omega)
               refine ⟨k + 1, n * 16 + (L - 87), by omega, rfl, ?_, by go_num, rfl, Lib.hid ⟨r1, r2⟩⟩
               congr 1
               have := HNN.out
               omega)
          | (go_ret2
             refine ⟨0, _, rfl, .inr rfl, by omega, fun hall => ?_, HB.out⟩
             have h1 := HX.out (hall cc HMem.out)
             have h2 := HL2.out
             exfalso
             rcases h1 with h1 | h1
             · omega
             · have := h2 h1.1 h1.2.1
               omega)
    · have hkn : k = 16 := by omega
      subst hkn
      have HT : Hid (s.take 16 = s) := Lib.hid (List.take_of_length_le (by rw [HS.out]; omega))
      go_wp2_with fail
      go_ret2
      refine ⟨n, .nilIface, rfl, .inl rfl, HM.out.1, fun hall => ?_, HB.out⟩
      have := HM.out.2
      rw [HT.out] at this
      exact this hall

theorem pu_any (s : List UInt8) (w : World) (h : s.length = 16) (hL : LdP w) :
    Calls Tryz.prog 73 #[.string (Bstr s), .int .i64 16, .int .i64 64] w fun e w' => ∃ (n : Nat) (x : Value), e = .returned (.tuple #[.int .u64 (n : Int), x]) ∧ n < 18446744073709551616 ∧ (∀ m : Nat, m < 18446744073709551616 → s = digs 16 m 16 → n = m) ∧ Below w.heap.size w w' := by
  have hfin : ∀ n : Nat, ((∀ c ∈ s, HexC c) → n = valD 16 s) → ∀ m : Nat, m < 18446744073709551616 → s = digs 16 m 16 → n = m := fun n hn m hm hs => by
    rw [hn (by rw [hs]; exact hex_digs m 16), hs, valD_digs 16 (by omega) (by omega), Nat.mod_eq_of_lt (by omega : m < 16 ^ 16)]
  have HL := Lib.hid hL
  have HF := Lib.hid hfin
  have hI := ipu_any s w h
  have hT := fun (fn : ByteArray) (u : World) (hu : LdP u) => toErr_any fn s 16 64 u (by omega) hu
  clear hL hfin h
  go_enter Tryz.func73, Tryz.ntmps73
  go_wp2_with fail
  refine hI.mono ?_
  rintro e w1 ⟨n, x, rfl, hx, hn, hv, hb1⟩
  have HN := Lib.hid hn
  have HV := Lib.hid hv
  clear hn hv
  rcases hx with rfl | rfl
  · go_wp2_with fail
    go_ret2
    exact ⟨n, _, rfl, HN.out, HF.out n HV.out, hb1⟩
  · go_wp2_with fail
    refine (hT _ _ (HL.out.below hb1)).mono ?_
    rintro e w2 ⟨y, rfl, hb2⟩
    go_wp2_with fail
    go_ret2
    exact ⟨n, _, rfl, HN.out, HF.out n HV.out, hb1.trans (hb2.mono hb1.size)⟩

theorem mparse_short (s : List UInt8) (w : World) (h : s.length ≤ 19) :
    Calls Tryz.prog 55 #[.string (Bstr s)] w fun e w' => e = .returned (.tuple #[.int .u64 0, .string ⟨#[]⟩, .int .i64 0, .bool false]) ∧ Below w.heap.size w w' := by
  have hsz := Bstr_size s
  go_enter Tryz.func55, Tryz.ntmps55
  go_wp2_with fail
  try simp only [Exit.inBlock, Exit.then]
  refine bodyPost_ret (results_tmp4 rfl _ _ _) rfl ?_
  exact ⟨rfl, Below.refl _ _⟩

theorem parse_read (s : List UInt8) (h : 19 < s.length) (id : Nat) (page : Int) (hid : id < 18446744073709551616) (hm : ∀ m : Nat, m < 18446744073709551616 → (s.drop 2).take 16 = digs 16 m 16 → id = m)
    (hp : (s.drop 19).take 1 ≠ [112] → page = 0) (hp' : (s.drop 19).take 1 = [112] → ∀ m : Nat, m < 1000 → s.drop 20 = digs 10 m 3 → page = (m : Int)) :
    if nmOf id ((s.drop 19).take 1) page ≠ s then ParseP s 0 [] 0 false else ParseP s id ((s.drop 19).take 1) page true := by
  split
  · rename_i hc
    refine ParseP_none fun i w k hN => hc ?_
    obtain ⟨h1, h2, h3, h4⟩ := hN.parts
    rw [hm i hN.idlt h1]
    rcases hN.kind with rfl | ⟨hw, rfl⟩
    · rw [hp' h2 k hN.nlt (h3 rfl).1, h2]
      exact hN.eq.symm
    · rw [hp (by rw [h2]; exact fun e => sortW_p (e ▸ hw)), h2]
      exact hN.eq.symm
  · rename_i hn
    have hn' := Classical.not_not.1 hn
    have hk : (s.drop 19).take 1 = [112] ∨ sortW ((s.drop 19).take 1) := by
      by_cases hw : sortW ((s.drop 19).take 1)
      · exact .inr hw
      · by_cases hp : (s.drop 19).take 1 = [112]
        · exact .inl hp
        · rw [nmOf_none hw hp] at hn'
          rw [← hn'] at h
          cases h
    rcases hk with hk | hk
    · have h20 : s.drop 20 = digs 10 (pgN page) 3 := by
        have hd := hn'
        rw [hk, nmOf_p] at hd
        have hl : (nmHead id ++ [112]).length = 20 := by rw [List.length_append, nmHead_length]; rfl
        rw [← hd, List.drop_append_of_le_length (by rw [hl]; omega), List.drop_eq_nil_of_le (by rw [hl]; omega)]
        rfl
      have := hp' hk _ (pgN_lt page) h20
      exact .inl ⟨rfl, pgN page, this, hid, pgN_lt _, .inl hk, by rw [← this]; exact hn'.symm⟩
    · have hne : (s.drop 19).take 1 ≠ [112] := fun e => sortW_p (e ▸ hk)
      have := hp hne
      subst this
      exact .inl ⟨rfl, 0, rfl, hid, by omega, .inr ⟨hk, rfl⟩, hn'.symm⟩

set_option maxHeartbeats 1600000 in
theorem mparse_any (s : List UInt8) (w : World) (hl : s.length ≤ 140737488355328) (hL : LdP w) :
    Calls Tryz.prog 55 #[.string (Bstr s)] w fun e w' => ∃ id what n is, e = .returned (.tuple #[.int .u64 (id : Nat), .string (Bstr what), .int .i64 n, .bool is]) ∧ ParseP s id what n is ∧ Below w.heap.size w w' := by
  by_cases h : s.length ≤ 19
  · refine (mparse_short s w h).mono fun e w' ⟨he, hb⟩ => ⟨0, [], 0, false, he, ParseP_none fun i wh k hN => ?_, hb⟩
    obtain ⟨h1, h2, h3, h4⟩ := hN.parts
    rcases hN.kind with rfl | ⟨hw, rfl⟩
    · have := (h3 rfl).2
      omega
    · have := h4 hw
      omega
  have hsz := Bstr_size s
  have HLn := Lib.hid hl
  have hgt : 19 < s.length := by omega
  have x1 : (Bstr s).extract 2 18 = Bstr ((s.drop 2).take 16) := Bstr_cut s 2 18
  have x2 : (Bstr s).extract 19 20 = Bstr ((s.drop 19).take 1) := Bstr_cut s 19 20
  have x3 : (Bstr s).extract 20 s.length = Bstr (s.drop 20) := by
    rw [Bstr_cut, List.take_of_length_le (by simp)]
  have h16 : ((s.drop 2).take 16).length = 16 := by rw [List.length_take, List.length_drop]; omega
  have h1 : ((s.drop 19).take 1).length = 1 := by rw [List.length_take, List.length_drop]; omega
  have hPU := fun (u : World) (hu : LdP u) => pu_any ((s.drop 2).take 16) u h16 hu
  have hCl := fun (u : World) => cloneS_any (Bstr ((s.drop 19).take 1)) u (by rw [Bstr_size, h1]; omega)
  have hAt := fun (u : World) (hu : LdP u) => atoi_any (s.drop 20) u (by rw [List.length_drop]; omega) hu
  have HR := Lib.hid fun (id : Nat) (page : Int) => parse_read s hgt id page
  have HL := Lib.hid hL
  clear h16 h1 hL hl h
  revert HR hPU hCl hAt
  generalize (s.drop 2).take 16 = idl at *
  generalize (s.drop 19).take 1 = wh at *
  generalize s.drop 20 = tl at *
  intro hPU hCl hAt HR
  by_cases hp : wh = [112]
  · have hpb : ((Bstr wh).toList == [112]) = true := by rw [BSlist, hp]; rfl
    have HP := Lib.hid hp
    clear hp
    go_enter Tryz.func55, Tryz.ntmps55
    go_wp2_with fail
    refine (hPU _ HL.out).mono ?_
    rintro e w1 ⟨id, x, rfl, hid, hm, hb1⟩
    have HID := Lib.hid hid
    have HM := Lib.hid hm
    have HL1 := Lib.hid (HL.out.below hb1)
    clear hid hm
    go_wp2_with fail
    refine (hCl _).mono ?_
    rintro e w2 ⟨rfl, hb2⟩
    have HL2 := Lib.hid (HL1.out.below hb2)
    have HB2 := Lib.hid (hb1.trans (hb2.mono hb1.size))
    clear hb1 hb2
    go_wp2_with fail
    refine (hAt _ HL2.out).mono ?_
    rintro e w3 ⟨n, y, rfl, hn0, hn1, hn2, hb3⟩
    have HL3 := Lib.hid (HL2.out.below hb3)
    have HB3 := Lib.hid (HB2.out.trans (hb3.mono HB2.out.size))
    have HN2 := Lib.hid hn2
    clear hb3 hn2
    have HRR := HR.out id n HID.out HM.out
    by_cases hn : nmOf id wh n = s
    · have hd := strEq _ _ hn
      rw [if_neg (fun h => h hn)] at HRR
      have HP2 := Lib.hid (HRR (fun h => absurd HP.out h) (fun _ => HN2.out))
      clear HRR hn
      have hN := fun (u : World) (hu : LdP u) => mname_any id wh n u HID.out hu.ld
      generalize nmOf id wh n = nm at *
      go_wp2_with fail
      refine (hN _ HL3.out).mono ?_
      rintro e w4 ⟨rfl, hb4⟩
      go_wp2_with fail
      try simp only [Exit.inBlock, Exit.then]
      refine bodyPost_ret (results_tmp4 rfl _ _ _) rfl ?_
      exact ⟨id, wh, n, true, rfl, HP2.out, HB3.out.trans (hb4.mono HB3.out.size)⟩
    · have hd := strNe _ _ hn
      rw [if_pos hn] at HRR
      have HP2 := Lib.hid (HRR (fun h => absurd HP.out h) (fun _ => HN2.out))
      clear HRR hn
      have hN := fun (u : World) (hu : LdP u) => mname_any id wh n u HID.out hu.ld
      generalize nmOf id wh n = nm at *
      go_wp2_with fail
      refine (hN _ HL3.out).mono ?_
      rintro e w4 ⟨rfl, hb4⟩
      go_wp2_with fail
      try simp only [Exit.inBlock, Exit.then]
      refine bodyPost_ret (results_tmp4 rfl _ _ _) rfl ?_
      exact ⟨0, [], 0, false, rfl, HP2.out, HB3.out.trans (hb4.mono HB3.out.size)⟩
  · have hpb : ((Bstr wh).toList == [112]) = false := by rw [BSlist, beq_eq_false_iff_ne]; exact hp
    have HP := Lib.hid hp
    clear hp
    go_enter Tryz.func55, Tryz.ntmps55
    go_wp2_with fail
    refine (hPU _ HL.out).mono ?_
    rintro e w1 ⟨id, x, rfl, hid, hm, hb1⟩
    have HID := Lib.hid hid
    have HM := Lib.hid hm
    have HL1 := Lib.hid (HL.out.below hb1)
    clear hid hm
    go_wp2_with fail
    refine (hCl _).mono ?_
    rintro e w2 ⟨rfl, hb2⟩
    have HL2 := Lib.hid (HL1.out.below hb2)
    have HB2 := Lib.hid (hb1.trans (hb2.mono hb1.size))
    clear hb1 hb2
    have HRR := HR.out id 0 HID.out HM.out
    by_cases hn : nmOf id wh 0 = s
    · have hd := strEq _ _ hn
      rw [if_neg (fun h => h hn)] at HRR
      have HP2 := Lib.hid (HRR (fun _ => rfl) (fun h => absurd h HP.out))
      clear HRR hn
      have hN := fun (u : World) (hu : LdP u) => mname_any id wh 0 u HID.out hu.ld
      generalize nmOf id wh 0 = nm at *
      go_wp2_with fail
      refine (hN _ HL2.out).mono ?_
      rintro e w4 ⟨rfl, hb4⟩
      go_wp2_with fail
      try simp only [Exit.inBlock, Exit.then]
      refine bodyPost_ret (results_tmp4 rfl _ _ _) rfl ?_
      exact ⟨id, wh, 0, true, rfl, HP2.out, HB2.out.trans (hb4.mono HB2.out.size)⟩
    · have hd := strNe _ _ hn
      rw [if_pos hn] at HRR
      have HP2 := Lib.hid (HRR (fun _ => rfl) (fun h => absurd h HP.out))
      clear HRR hn
      have hN := fun (u : World) (hu : LdP u) => mname_any id wh 0 u HID.out hu.ld
      generalize nmOf id wh 0 = nm at *
      go_wp2_with fail
      refine (hN _ HL2.out).mono ?_
      rintro e w4 ⟨rfl, hb4⟩
      go_wp2_with fail
      try simp only [Exit.inBlock, Exit.then]
      refine bodyPost_ret (results_tmp4 rfl _ _ _) rfl ?_
      exact ⟨0, [], 0, false, rfl, HP2.out, HB2.out.trans (hb4.mono HB2.out.size)⟩

end Go.Proofs.YtgafidnbmoomiaaGreatDoor

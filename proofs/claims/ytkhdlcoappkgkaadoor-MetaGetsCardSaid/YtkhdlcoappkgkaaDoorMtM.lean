/-
  CONTRACT of the program's Parse; the head of layer 13's statements. Conditions: what each says; of the library's variables: Ld.
-/
import Derived.Test.YtkhdlcoappkgkaaDoorMtC
import Derived.Test.YtkhdlcoappkgkaaDoorMtJ
import Derived.Test.YtkhdlcoappkgkaaDoorMtK
namespace Go.Proofs.YtkhdlcoappkgkaaDoor
open Go.RowKit
set_option maxRecDepth 100000

theorem mparse_short (s : List UInt8) (w : World) (h : s.length ≤ 19) :
    Calls Tryd.prog 22 #[.string (Bstr s)] w fun e w' => e = .returned (.tuple #[.int .u64 0, .string ⟨#[]⟩, .int .i64 0, .bool false]) ∧ Below w.heap.size w w' := by
  have hsz := Bstr_size s
  go_enter Tryd.func22, Tryd.ntmps22
  go_wp2_with fail
  try simp only [Exit.inBlock, Exit.then]
  refine bodyPost_ret (results_tmp4 rfl _ _ _) rfl ?_
  exact ⟨rfl, Below.refl _ _⟩

/-- what is told of a name by numbers that were read off it -/
theorem parse_read (s : List UInt8) (h : 19 < s.length) (id : Nat) (page : Int) (hid : id < 18446744073709551616) (hm : ∀ m : Nat, m < 18446744073709551616 → (s.drop 2).take 16 = digs 16 m 16 → id = m)
    (hp : (s.drop 19).take 1 ≠ [112] → page = 0) (hp' : (s.drop 19).take 1 = [112] → ∀ m : Nat, m < 1000 → s.drop 20 = digs 10 m 3 → page = (m : Int)) :
    if nmOf id ((s.drop 19).take 1) page ≠ s then ParseP s 0 [] 0 false else ParseP s id ((s.drop 19).take 1) page true := by
  split
  · rename_i hc
    refine ParseP_none fun i w k hN => hc ?_
    obtain ⟨h1, h2, h3, h4⟩ := hN.parts
    rw [hm i hN.idlt h1]
    rcases hN.kind with rfl | ⟨hw, rfl⟩
    · rw [hp' h2 k hN.nlt (h3 rfl).1, h2]
      exact hN.eq.symm
    · rw [hp (by rw [h2]; exact fun e => sortW_p (e ▸ hw)), h2]
      exact hN.eq.symm
  · rename_i hn
    have hn' := Classical.not_not.1 hn
    have hk : (s.drop 19).take 1 = [112] ∨ sortW ((s.drop 19).take 1) := by
      by_cases hw : sortW ((s.drop 19).take 1)
      · exact .inr hw
      · by_cases hp : (s.drop 19).take 1 = [112]
        · exact .inl hp
        · rw [nmOf_none hw hp] at hn'
          rw [← hn'] at h
          cases h
    rcases hk with hk | hk
    · have h20 : s.drop 20 = digs 10 (pgN page) 3 := by
        have hd := hn'
        rw [hk, nmOf_p] at hd
        have hl : (nmHead id ++ [112]).length = 20 := by rw [List.length_append, nmHead_length]; rfl
        rw [← hd, List.drop_append_of_le_length (by rw [hl]; omega), List.drop_eq_nil_of_le (by rw [hl]; omega)]
        rfl
      have := hp' hk _ (pgN_lt page) h20
      exact .inl ⟨rfl, pgN page, this, hid, pgN_lt _, .inl hk, by rw [← this]; exact hn'.symm⟩
    · have hne : (s.drop 19).take 1 ≠ [112] := fun e => sortW_p (e ▸ hk)
      have := hp hne
      subst this
      exact .inl ⟨rfl, 0, rfl, hid, by omega, .inr ⟨hk, rfl⟩, hn'.symm⟩

set_option maxHeartbeats 1600000 in
theorem mparse_any (s : List UInt8) (w : World) (hl : s.length ≤ 140737488355328) (hL : Ld w) :
    Calls Tryd.prog 22 #[.string (Bstr s)] w fun e w' => ∃ id what n is, e = .returned (.tuple #[.int .u64 (id : Nat), .string (Bstr what), .int .i64 n, .bool is]) ∧ ParseP s id what n is ∧ Below w.heap.size w w' := by
  by_cases h : s.length ≤ 19
  · refine (mparse_short s w h).mono fun e w' ⟨he, hb⟩ => ⟨0, [], 0, false, he, ParseP_none fun i wh k hN => ?_, hb⟩
    obtain ⟨h1, h2, h3, h4⟩ := hN.parts
    rcases hN.kind with rfl | ⟨hw, rfl⟩
    · have := (h3 rfl).2
      omega
    · have := h4 hw
      omega
  have hsz := Bstr_size s
  have HLn := Lib.hid hl
  have hgt : 19 < s.length := by omega
  have x1 : (Bstr s).extract 2 18 = Bstr ((s.drop 2).take 16) := Bstr_cut s 2 18
  have x2 : (Bstr s).extract 19 20 = Bstr ((s.drop 19).take 1) := Bstr_cut s 19 20
  have x3 : (Bstr s).extract 20 s.length = Bstr (s.drop 20) := by
    rw [Bstr_cut, List.take_of_length_le (by simp)]
  have h16 : ((s.drop 2).take 16).length = 16 := by rw [List.length_take, List.length_drop]; omega
  have h1 : ((s.drop 19).take 1).length = 1 := by rw [List.length_take, List.length_drop]; omega
  have hPU := fun (u : World) (hu : Ld u) => pu_any ((s.drop 2).take 16) u h16 hu
  have hCl := fun (u : World) => cloneS_any (Bstr ((s.drop 19).take 1)) u (by rw [Bstr_size, h1]; omega)
  have hAt := fun (u : World) (hu : Ld u) => atoi_any (s.drop 20) u (by rw [List.length_drop]; omega) hu
  have HR := Lib.hid fun (id : Nat) (page : Int) => parse_read s hgt id page
  have HL := Lib.hid hL
  clear h16 h1 hL hl h
  revert HR hPU hCl hAt
  generalize (s.drop 2).take 16 = idl at *
  generalize (s.drop 19).take 1 = wh at *
  generalize s.drop 20 = tl at *
  intro hPU hCl hAt HR
  by_cases hp : wh = [112]
  · have hpb : ((Bstr wh).toList == [112]) = true := by rw [BSlist, hp]; rfl
    have HP := Lib.hid hp
    clear hp
    go_enter Tryd.func22, Tryd.ntmps22
    go_wp2_with fail
    refine (hPU _ HL.out).mono ?_
    rintro e w1 ⟨id, x, rfl, hid, hm, hb1⟩
    have HID := Lib.hid hid
    have HM := Lib.hid hm
    have HL1 := Lib.hid (HL.out.below hb1)
    clear hid hm
    go_wp2_with fail
    refine (hCl _).mono ?_
    rintro e w2 ⟨rfl, hb2⟩
    have HL2 := Lib.hid (HL1.out.below hb2)
    have HB2 := Lib.hid (hb1.trans (hb2.mono hb1.size))
    clear hb1 hb2
    go_wp2_with fail
    refine (hAt _ HL2.out).mono ?_
    rintro e w3 ⟨n, y, rfl, hn0, hn1, hn2, hb3⟩
    have HL3 := Lib.hid (HL2.out.below hb3)
    have HB3 := Lib.hid (HB2.out.trans (hb3.mono HB2.out.size))
    have HN2 := Lib.hid hn2
    clear hb3 hn2
    have HRR := HR.out id n HID.out HM.out
    by_cases hn : nmOf id wh n = s
    · have hd := strEq _ _ hn
      rw [if_neg (fun h => h hn)] at HRR
      have HP2 := Lib.hid (HRR (fun h => absurd HP.out h) (fun _ => HN2.out))
      clear HRR hn
      have hN := fun (u : World) (hu : Ld u) => mname_any id wh n u HID.out hu
      generalize nmOf id wh n = nm at *
      go_wp2_with fail
      refine (hN _ HL3.out).mono ?_
      rintro e w4 ⟨rfl, hb4⟩
      go_wp2_with fail
      try simp only [Exit.inBlock, Exit.then]
      refine bodyPost_ret (results_tmp4 rfl _ _ _) rfl ?_
      exact ⟨id, wh, n, true, rfl, HP2.out, HB3.out.trans (hb4.mono HB3.out.size)⟩
    · have hd := strNe _ _ hn
      rw [if_pos hn] at HRR
      have HP2 := Lib.hid (HRR (fun h => absurd HP.out h) (fun _ => HN2.out))
      clear HRR hn
      have hN := fun (u : World) (hu : Ld u) => mname_any id wh n u HID.out hu
      generalize nmOf id wh n = nm at *
      go_wp2_with fail
      refine (hN _ HL3.out).mono ?_
      rintro e w4 ⟨rfl, hb4⟩
      go_wp2_with fail
      try simp only [Exit.inBlock, Exit.then]
      refine bodyPost_ret (results_tmp4 rfl _ _ _) rfl ?_
      exact ⟨0, [], 0, false, rfl, HP2.out, HB3.out.trans (hb4.mono HB3.out.size)⟩
  · have hpb : ((Bstr wh).toList == [112]) = false := by rw [BSlist, beq_eq_false_iff_ne]; exact hp
    have HP := Lib.hid hp
    clear hp
    go_enter Tryd.func22, Tryd.ntmps22
    go_wp2_with fail
    refine (hPU _ HL.out).mono ?_
    rintro e w1 ⟨id, x, rfl, hid, hm, hb1⟩
    have HID := Lib.hid hid
    have HM := Lib.hid hm
    have HL1 := Lib.hid (HL.out.below hb1)
    clear hid hm
    go_wp2_with fail
    refine (hCl _).mono ?_
    rintro e w2 ⟨rfl, hb2⟩
    have HL2 := Lib.hid (HL1.out.below hb2)
    have HB2 := Lib.hid (hb1.trans (hb2.mono hb1.size))
    clear hb1 hb2
    have HRR := HR.out id 0 HID.out HM.out
    by_cases hn : nmOf id wh 0 = s
    · have hd := strEq _ _ hn
      rw [if_neg (fun h => h hn)] at HRR
      have HP2 := Lib.hid (HRR (fun _ => rfl) (fun h => absurd h HP.out))
      clear HRR hn
      have hN := fun (u : World) (hu : Ld u) => mname_any id wh 0 u HID.out hu
      generalize nmOf id wh 0 = nm at *
      go_wp2_with fail
      refine (hN _ HL2.out).mono ?_
      rintro e w4 ⟨rfl, hb4⟩
      go_wp2_with fail
      try simp only [Exit.inBlock, Exit.then]
      refine bodyPost_ret (results_tmp4 rfl _ _ _) rfl ?_
      exact ⟨id, wh, 0, true, rfl, HP2.out, HB2.out.trans (hb4.mono HB2.out.size)⟩
    · have hd := strNe _ _ hn
      rw [if_pos hn] at HRR
      have HP2 := Lib.hid (HRR (fun _ => rfl) (fun h => absurd h HP.out))
      clear HRR hn
      have hN := fun (u : World) (hu : Ld u) => mname_any id wh 0 u HID.out hu
      generalize nmOf id wh 0 = nm at *
      go_wp2_with fail
      refine (hN _ HL2.out).mono ?_
      rintro e w4 ⟨rfl, hb4⟩
      go_wp2_with fail
      try simp only [Exit.inBlock, Exit.then]
      refine bodyPost_ret (results_tmp4 rfl _ _ _) rfl ?_
      exact ⟨0, [], 0, false, rfl, HP2.out, HB2.out.trans (hb4.mono HB2.out.size)⟩

set_option maxHeartbeats 800000 in
theorem up13_any (w : World) (hL : Ld w) : Calls Tryd.prog 7 #[] w fun e w' => e = .returned (.bool true) ∧ Below w.heap.size w w' := by
  have eqc := eqCode
  have HL := Lib.hid hL
  have hNA : NamedAs [98, 47, 48, 48, 48, 48, 48, 48, 48, 48, 48, 48, 48, 48, 48, 48, 102, 102, 47, 109] 255 [109] 0 := ⟨by omega, by omega, .inr ⟨by decide, rfl⟩, by decide⟩
  have HNA := Lib.hid hNA
  have hnm : nmOf 255 [109] 0 = [98, 47, 48, 48, 48, 48, 48, 48, 48, 48, 48, 48, 48, 48, 48, 48, 102, 102, 47, 109] := by decide
  have hP := fun (u : World) (hu : Ld u) => mparse_any [98, 47, 48, 48, 48, 48, 48, 48, 48, 48, 48, 48, 48, 48, 48, 48, 102, 102, 47, 109] u (by decide) hu
  have hPut := fun (u : World) => mput_bad Me.zero ⟨by decide, by decide, by decide, by decide, by decide, by decide, by decide, by decide, by decide, by decide, by decide, by decide⟩ u meB_zero
  have hN := fun (u : World) (hu : Ld u) => mname_any 255 [109] 0 u (by omega) hu
  rw [hnm] at hN
  have q1 : ((Bstr [98, 47, 48, 48, 48, 48, 48, 48, 48, 48, 48, 48, 48, 48, 48, 48, 102, 102, 47, 109]).toList == [98, 47, 48, 48, 48, 48, 48, 48, 48, 48, 48, 48, 48, 48, 48, 48, 102, 102, 47, 109]) = true := by rw [BSlist]; rfl
  have q2 : ((Bstr [109]).toList == [109]) = true := by rw [BSlist]; rfl
  clear hL hNA hnm
  go_enter Tryd.func7, Tryd.ntmps7
  go_wp2_with fail
  refine (hP _ HL.out).mono ?_
  rintro e w1 ⟨id, what, n, is, rfl, hp, hb1⟩
  have HL1 := Lib.hid (HL.out.below hb1)
  rcases hp with ⟨rfl, k, rfl, hNA⟩ | ⟨_, _, _, _, hno⟩
  · obtain ⟨rfl, rfl, rfl⟩ := hNA.one HNA.out
    clear hNA
    go_wp2_with fail
    refine (hPut _).mono ?_
    rintro e w2 ⟨rfl, hb2⟩
    have HL2 := Lib.hid (HL1.out.below hb2)
    go_wp2_with fail
    refine (hN _ HL2.out).mono ?_
    rintro e w3 ⟨rfl, hb3⟩
    have hb123 := (hb1.trans (hb2.mono hb1.size)).trans (hb3.mono (hb1.trans (hb2.mono hb1.size)).size)
    go_wp2_with fail
    go_ret
    exact ⟨rfl, hb123⟩
  · exact absurd HNA.out (hno _ _ _)
end Go.Proofs.YtkhdlcoappkgkaaDoor

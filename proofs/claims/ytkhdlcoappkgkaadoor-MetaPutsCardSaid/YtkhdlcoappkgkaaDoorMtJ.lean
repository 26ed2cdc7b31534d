/-
  CONTRACT of the document's Parse. Conditions: what it says.
-/
import Derived.Test.YtkhdlcoappkgkaaDoorMtI
namespace Go.Proofs.YtkhdlcoappkgkaaDoor
open Go.RowKit
set_option maxRecDepth 100000

theorem Bstr_cut (s : List UInt8) (a b : Nat) : (Bstr s).extract a b = Bstr ((s.drop a).take (b - a)) := by
  apply ByteArray.ext
  apply Array.ext'
  simp [Bstr]
theorem results_tmp4 {fn : Func} {t u v x : Tmp} (h : fn.results = #[.tmp t, .tmp u, .tmp v, .tmp x]) (tmps : Array Value) (P : Program) (w : World) :
    (results fn tmps).run P w = .ok (.tuple #[tmps.getD t undef, tmps.getD u undef, tmps.getD v undef, tmps.getD x undef]) w := by
  simp [results, h]
theorem strNe (a b : List UInt8) (h : a ≠ b) : (!(Bstr a).toList == (Bstr b).toList) = true := by
  rw [BSlist, BSlist, Bool.not_eq_true', beq_eq_false_iff_ne]
  exact h
theorem strEq (a b : List UInt8) (h : a = b) : (!(Bstr a).toList == (Bstr b).toList) = false := by
  rw [h]
  simp

theorem Parse_len (s : List UInt8) (w : World) (h1 : s.length ≠ 20) (h2 : s.length ≠ 23) :
    Calls Tryd.prog 23 #[.string (Bstr s)] w fun e w' => e = .returned (.tuple #[.int .u64 0, .string ⟨#[]⟩, .int .i64 0, .bool false]) ∧ Below w.heap.size w w' := by
  have hsz := Bstr_size s
  have e1 : ((s.length : Int) != 20) = true := by
    have : ¬ (s.length : Int) = 20 := by omega
    simp [this]
  have e2 : ((s.length : Int) != 23) = true := by
    have : ¬ (s.length : Int) = 23 := by omega
    simp [this]
  clear h1 h2
  go_enter Tryd.func23, Tryd.ntmps23
  go_wp2_with fail
  try simp only [Exit.inBlock, Exit.then]
  refine bodyPost_ret (results_tmp4 rfl _ _ _) rfl ?_
  exact ⟨rfl, Below.refl _ _⟩

set_option maxHeartbeats 1600000 in
theorem Parse_20 (s : List UInt8) (w : World) (h : s.length = 20) :
    Calls Tryd.prog 23 #[.string (Bstr s)] w fun e w' => e = .returned (if (s.drop 19).take 1 = [112] ∨ nmOf (valD 16 ((s.drop 2).take 16)) ((s.drop 19).take 1) 0 ≠ s then .tuple #[.int .u64 0, .string ⟨#[]⟩, .int .i64 0, .bool false] else .tuple #[.int .u64 (valD 16 ((s.drop 2).take 16) : Int), .string (Bstr ((s.drop 19).take 1)), .int .i64 0, .bool true]) ∧ Below w.heap.size w w' := by
  have hsz : (Bstr s).size = 20 := by rw [Bstr_size, h]
  have x1 : (Bstr s).extract 2 18 = Bstr ((s.drop 2).take 16) := Bstr_cut s 2 18
  have x2 : (Bstr s).extract 19 20 = Bstr ((s.drop 19).take 1) := Bstr_cut s 19 20
  have hlen : ((s.drop 2).take 16).length ≤ 16 := by rw [List.length_take]; omega
  have hid : valD 16 ((s.drop 2).take 16) < 18446744073709551616 := Nat.lt_of_lt_of_le (valD_lt _) (Nat.le_trans (Nat.pow_le_pow_right (by omega) hlen) (by decide))
  have hV := fun u => value_any ((s.drop 2).take 16) u hlen
  generalize (s.drop 2).take 16 = idl at *
  generalize (s.drop 19).take 1 = wh at *
  generalize valD 16 idl = id at *
  have hN := fun u => Name_any id wh 0 u hid (by omega)
  clear hlen h
  by_cases hp : wh = [112]
  · rw [if_pos (.inl hp)]
    have hpb : ((Bstr wh).toList == [112]) = true := by rw [BSlist, hp]; rfl
    clear hN hp
    go_enter Tryd.func23, Tryd.ntmps23
    go_wp2_with fail
    refine (hV _).mono ?_
    rintro e w1 ⟨rfl, hb1⟩
    go_wp2_with fail
    try simp only [Exit.inBlock, Exit.then]
    refine bodyPost_ret (results_tmp4 rfl _ _ _) rfl ?_
    exact ⟨rfl, hb1⟩
  · have hpb : ((Bstr wh).toList == [112]) = false := by rw [BSlist, beq_eq_false_iff_ne]; exact hp
    by_cases hn : nmOf id wh 0 = s
    · have hd := strEq _ _ hn
      rw [if_neg (fun h => h.elim hp fun h => h hn)]
      clear hn hp
      generalize nmOf id wh 0 = nm at *
      go_enter Tryd.func23, Tryd.ntmps23
      go_wp2_with fail
      refine (hV _).mono ?_
      rintro e w1 ⟨rfl, hb1⟩
      go_wp2_with fail
      refine (hN _).mono ?_
      rintro e w2 ⟨rfl, hb2⟩
      go_wp2_with fail
      try simp only [Exit.inBlock, Exit.then]
      refine bodyPost_ret (results_tmp4 rfl _ _ _) rfl ?_
      exact ⟨rfl, hb1.trans (hb2.mono hb1.size)⟩
    · have hd := strNe _ _ hn
      rw [if_pos (.inr hn)]
      clear hn hp
      generalize nmOf id wh 0 = nm at *
      go_enter Tryd.func23, Tryd.ntmps23
      go_wp2_with fail
      refine (hV _).mono ?_
      rintro e w1 ⟨rfl, hb1⟩
      go_wp2_with fail
      refine (hN _).mono ?_
      rintro e w2 ⟨rfl, hb2⟩
      go_wp2_with fail
      try simp only [Exit.inBlock, Exit.then]
      refine bodyPost_ret (results_tmp4 rfl _ _ _) rfl ?_
      exact ⟨rfl, hb1.trans (hb2.mono hb1.size)⟩

/-- the page's number in a name of 23 bytes -/
def pgOf (s : List UInt8) : Nat := 100 * ((s.getD 20 0).toNat % 16) + 10 * ((s.getD 21 0).toNat % 16) + (s.getD 22 0).toNat % 16

set_option maxHeartbeats 1600000 in
theorem Parse_23 (s : List UInt8) (w : World) (h : s.length = 23) :
    Calls Tryd.prog 23 #[.string (Bstr s)] w fun e w' => e = .returned (if nmOf (valD 16 ((s.drop 2).take 16)) ((s.drop 19).take 1) (pgOf s) ≠ s then .tuple #[.int .u64 0, .string ⟨#[]⟩, .int .i64 0, .bool false] else .tuple #[.int .u64 (valD 16 ((s.drop 2).take 16) : Int), .string (Bstr ((s.drop 19).take 1)), .int .i64 (pgOf s : Int), .bool true]) ∧ Below w.heap.size w w' := by
  have hsz : (Bstr s).size = 23 := by rw [Bstr_size, h]
  have x1 : (Bstr s).extract 2 18 = Bstr ((s.drop 2).take 16) := Bstr_cut s 2 18
  have x2 : (Bstr s).extract 19 20 = Bstr ((s.drop 19).take 1) := Bstr_cut s 19 20
  have hlen : ((s.drop 2).take 16).length ≤ 16 := by rw [List.length_take]; omega
  have hid : valD 16 ((s.drop 2).take 16) < 18446744073709551616 := Nat.lt_of_lt_of_le (valD_lt _) (Nat.le_trans (Nat.pow_le_pow_right (by omega) hlen) (by decide))
  have hV := fun u => value_any ((s.drop 2).take 16) u hlen
  generalize (s.drop 2).take 16 = idl at *
  generalize (s.drop 19).take 1 = wh at *
  generalize valD 16 idl = id at *
  obtain ⟨c0, hc0⟩ : ∃ c : Nat, ((Bstr s)[20]'(by rw [hsz]; omega)).toNat = c := ⟨_, rfl⟩
  obtain ⟨c1, hc1⟩ : ∃ c : Nat, ((Bstr s)[21]'(by rw [hsz]; omega)).toNat = c := ⟨_, rfl⟩
  obtain ⟨c2, hc2⟩ : ∃ c : Nat, ((Bstr s)[22]'(by rw [hsz]; omega)).toNat = c := ⟨_, rfl⟩
  have key : ∀ (k : Nat) (hk : k < s.length) (hk' : k < (Bstr s).size), (s.getD k 0).toNat = ((Bstr s)[k]'hk').toNat := fun k hk hk' => by
    rw [List.getD_eq_getElem?_getD, List.getElem?_eq_getElem hk]
    rfl
  have hpg : pgOf s = 100 * (c0 % 16) + 10 * (c1 % 16) + c2 % 16 := by
    unfold pgOf
    rw [key 20 (by omega) (by rw [hsz]; omega), key 21 (by omega) (by rw [hsz]; omega), key 22 (by omega) (by rw [hsz]; omega), hc0, hc1, hc2]
  have hN := fun u => Name_any id wh (pgOf s) u hid (by rw [hpg]; omega)
  have hpi : 100 * ((c0 : Int) % 16) + 10 * ((c1 : Int) % 16) + (c2 : Int) % 16 = (pgOf s : Int) := by rw [hpg]; omega
  have b0 : c0 < 256 := by rw [← hc0]; exact UInt8.toNat_lt _
  have b1 : c1 < 256 := by rw [← hc1]; exact UInt8.toNat_lt _
  have b2 : c2 < 256 := by rw [← hc2]; exact UInt8.toNat_lt _
  clear hpg key hlen h
  generalize pgOf s = pg at *
  by_cases hn : nmOf id wh pg = s
  · have hd := strEq _ _ hn
    rw [if_neg (fun h => h hn)]
    clear hn
    generalize nmOf id wh pg = nm at *
    go_enter Tryd.func23, Tryd.ntmps23
    go_wp2_with fail
    refine (hV _).mono ?_
    rintro e w1 ⟨rfl, hb1⟩
    go_wp2_with fail
    go_quiet (fail)
    go_wp2_with fail
    all_goals
      refine (hN _).mono ?_
      rintro e w2 ⟨rfl, hb2⟩
      go_wp2_with fail
      try simp only [Exit.inBlock, Exit.then]
      refine bodyPost_ret (results_tmp4 rfl _ _ _) rfl ?_
      exact ⟨rfl, (below_drewN hb1 _).trans (hb2.mono hb1.size)⟩
  · have hd := strNe _ _ hn
    rw [if_pos hn]
    clear hn
    generalize nmOf id wh pg = nm at *
    go_enter Tryd.func23, Tryd.ntmps23
    go_wp2_with fail
    refine (hV _).mono ?_
    rintro e w1 ⟨rfl, hb1⟩
    go_wp2_with fail
    go_quiet (fail)
    go_wp2_with fail
    all_goals
      refine (hN _).mono ?_
      rintro e w2 ⟨rfl, hb2⟩
      go_wp2_with fail
      try simp only [Exit.inBlock, Exit.then]
      refine bodyPost_ret (results_tmp4 rfl _ _ _) rfl ?_
      exact ⟨rfl, (below_drewN hb1 _).trans (hb2.mono hb1.size)⟩

/-- WHAT A NAME IS, told by its parts -/
theorem head_parts {s tl : List UInt8} {id : Nat} (h : s = nmHead id ++ tl) : (s.drop 2).take 16 = digs 16 id 16 ∧ s.drop 19 = tl := by
  subst h
  have hl := digs_length 16 id 16
  refine ⟨cutp (a := [98, 47]) (b := digs 16 id 16) (c := [47] ++ tl) (by simp [nmHead]) rfl hl, ?_⟩
  rw [List.drop_append_of_le_length (by rw [nmHead_length]; omega), List.drop_eq_nil_of_le (by rw [nmHead_length]; omega)]
  rfl
theorem ParseP_none {s : List UInt8} (h : ∀ i w k, ¬ NamedAs s i w k) : ParseP s 0 [] 0 false := .inr ⟨rfl, rfl, rfl, rfl, h⟩

theorem parse_20 (s : List UInt8) (h : s.length = 20) :
    if (s.drop 19).take 1 = [112] ∨ nmOf (valD 16 ((s.drop 2).take 16)) ((s.drop 19).take 1) 0 ≠ s then ParseP s 0 [] 0 false else ParseP s (valD 16 ((s.drop 2).take 16)) ((s.drop 19).take 1) 0 true := by
  have hid : valD 16 ((s.drop 2).take 16) < 18446744073709551616 := Nat.lt_of_lt_of_le (valD_lt _) (Nat.le_trans (Nat.pow_le_pow_right (by omega) (by rw [List.length_take]; omega : ((s.drop 2).take 16).length ≤ 16)) (by decide))
  split
  · rename_i hc
    refine ParseP_none fun i w k hN => ?_
    obtain ⟨h1, h2, h3, h4⟩ := hN.parts
    rcases hN.kind with rfl | ⟨hw, rfl⟩
    · have := (h3 rfl).2
      omega
    · rcases hc with hc | hc
      · rw [h2] at hc
        exact sortW_p (hc ▸ hw)
      · refine hc ?_
        rw [h1, h2, valD_digs 16 (by omega) (by omega), Nat.mod_eq_of_lt (by have := hN.idlt; omega : i < 16 ^ 16)]
        exact hN.eq.symm
  · rename_i hc
    rw [not_or] at hc
    obtain ⟨hp, hn⟩ := hc
    have hn' := Classical.not_not.1 hn
    refine .inl ⟨rfl, 0, rfl, hid, by omega, .inr ⟨?_, rfl⟩, hn'.symm⟩
    by_cases hw : sortW ((s.drop 19).take 1)
    · exact hw
    · rw [nmOf_none hw hp] at hn'
      rw [← hn'] at h
      cases h

theorem parse_23 (s : List UInt8) (h : s.length = 23) :
    if nmOf (valD 16 ((s.drop 2).take 16)) ((s.drop 19).take 1) (pgOf s) ≠ s then ParseP s 0 [] 0 false else ParseP s (valD 16 ((s.drop 2).take 16)) ((s.drop 19).take 1) (pgOf s) true := by
  have hid : valD 16 ((s.drop 2).take 16) < 18446744073709551616 := Nat.lt_of_lt_of_le (valD_lt _) (Nat.le_trans (Nat.pow_le_pow_right (by omega) (by rw [List.length_take]; omega : ((s.drop 2).take 16).length ≤ 16)) (by decide))
  -- the last three, if they are digits
  have key : ∀ n : Nat, n < 1000 → s.drop 20 = digs 10 n 3 → pgOf s = n := fun n hn hd => by
    have h0 : s[20]? = (digs 10 n 3)[0]? := by rw [← hd, List.getElem?_drop]
    have h1 : s[21]? = (digs 10 n 3)[1]? := by rw [← hd, List.getElem?_drop]
    have h2 : s[22]? = (digs 10 n 3)[2]? := by rw [← hd, List.getElem?_drop]
    simp only [digs, List.nil_append, List.cons_append] at h0 h1 h2
    have e : ∀ d, d < 10 → (dchar d).toNat % 16 = d := fun d hd => by
      rw [dchar_toNat d (by omega), if_pos hd]
      omega
    unfold pgOf
    rw [List.getD_eq_getElem?_getD, List.getD_eq_getElem?_getD, List.getD_eq_getElem?_getD, h0, h1, h2]
    simp only [List.getElem?_cons_zero, List.getElem?_cons_succ, Option.getD_some]
    rw [e _ (Nat.mod_lt _ (by omega)), e _ (Nat.mod_lt _ (by omega)), e _ (Nat.mod_lt _ (by omega))]
    omega
  split
  · rename_i hc
    refine ParseP_none fun i w k hN => ?_
    obtain ⟨h1, h2, h3, h4⟩ := hN.parts
    rcases hN.kind with rfl | ⟨hw, rfl⟩
    · refine hc ?_
      rw [h1, h2, valD_digs 16 (by omega) (by omega), Nat.mod_eq_of_lt (by have := hN.idlt; omega : i < 16 ^ 16), key k hN.nlt (h3 rfl).1]
      exact hN.eq.symm
    · have := h4 hw
      omega
  · rename_i hn
    have hn' := Classical.not_not.1 hn
    have hp : (s.drop 19).take 1 = [112] := by
      by_cases hp : (s.drop 19).take 1 = [112]
      · exact hp
      · exfalso
        have hl := congrArg List.length hn'
        by_cases hw : sortW ((s.drop 19).take 1)
        · rw [nmOf_sort hw, List.length_append, nmHead_length, sortW_len hw] at hl
          omega
        · rw [nmOf_none hw hp] at hl
          simp at hl
          omega
    have hlt : pgOf s < 1000 := by
      have hd := hn'
      rw [hp, nmOf_p] at hd
      have h20 : s.drop 20 = digs 10 (pgN (pgOf s)) 3 := by
        have hl : (nmHead (valD 16 ((s.drop 2).take 16)) ++ [112]).length = 20 := by rw [List.length_append, nmHead_length]; rfl
        rw [← hd, List.drop_append_of_le_length (by rw [hl]; omega), List.drop_eq_nil_of_le (by rw [hl]; omega)]
        rw [hd]
        rfl
      have := key _ (pgN_lt _) h20
      rw [this]
      exact pgN_lt _
    exact .inl ⟨rfl, pgOf s, rfl, hid, hlt, .inl hp, hn'.symm⟩

theorem DParse_any (s : List UInt8) (w : World) :
    Calls Tryd.prog 23 #[.string (Bstr s)] w fun e w' => ∃ id what n is, e = .returned (.tuple #[.int .u64 (id : Nat), .string (Bstr what), .int .i64 n, .bool is]) ∧ ParseP s id what n is ∧ Below w.heap.size w w' := by
  by_cases h20 : s.length = 20
  · refine (Parse_20 s w h20).mono fun e w' ⟨he, hb⟩ => ?_
    have hp := parse_20 s h20
    split at he
    · rename_i hc
      rw [if_pos hc] at hp
      exact ⟨0, [], 0, false, he, hp, hb⟩
    · rename_i hc
      rw [if_neg hc] at hp
      exact ⟨_, _, 0, true, he, hp, hb⟩
  · by_cases h23 : s.length = 23
    · refine (Parse_23 s w h23).mono fun e w' ⟨he, hb⟩ => ?_
      have hp := parse_23 s h23
      split at he
      · rename_i hc
        rw [if_pos hc] at hp
        exact ⟨0, [], 0, false, he, hp, hb⟩
      · rename_i hc
        rw [if_neg hc] at hp
        exact ⟨_, _, _, true, he, hp, hb⟩
    · refine (Parse_len s w h20 h23).mono fun e w' ⟨he, hb⟩ => ⟨0, [], 0, false, he, ParseP_none fun i wh k hN => ?_, hb⟩
      obtain ⟨h1, h2, h3, h4⟩ := hN.parts
      rcases hN.kind with rfl | ⟨hw, rfl⟩
      · exact h23 (h3 rfl).2
      · exact h20 (h4 hw)
end Go.Proofs.YtkhdlcoappkgkaaDoor

/-
  THE WALK OF tankardlaw01.WordPuts: for all bytes b and s, every width and every number it returns true, and nothing that was there has turned.
-/
import Derived.Test.YtkffefbljmkdjaaWordG
import Derived.Test.YtkffefbljmkdjaaMix
namespace Go.Proofs.Ytkffefbljmkdjaa
open Go.RowKit

/-- own := append([]byte{}, b...), x, e := word.Put(own, ..), y, f := word.Text(own, s): what both are -/
structure Puts (w : World) (base : Nat) (l : List UInt8) (k n : Int) (x e : Value) : Prop where
  no : putOk k n = false → x = .slice none 0 0 ∧ e = code 1
  yes : putOk k n = true → e = .nilIface ∧ Own w base 5 x (l ++ bet n.toNat k.toNat)

theorem put_any (l : List UInt8) (v : Value) (k n : Int) (w : World) (h0 : 0 ≤ n) (hl : l.length ≤ 140737488355320) (hv : Bs w v l) :
    Calls Try.prog 7 #[v, .int .i64 k, .int .u64 n] w fun e w' => ∃ x f, e = .returned (.tuple #[x, f]) ∧ Puts w' w.heap.size l k n x f ∧ Below w.heap.size w w' := by
  cases h : putOk k n with
  | false =>
    refine (put_bad v k n w h0 h).mono ?_
    rintro e w' ⟨rfl, rfl⟩
    exact ⟨_, _, rfl, ⟨fun _ => ⟨rfl, rfl⟩, fun h' => absurd h' (by rw [h]; decide)⟩, Below.refl _ _⟩
  | true =>
    refine (put_ok l v k n w h0 h hl hv).mono ?_
    rintro e w' ⟨x, rfl, hown, hb⟩
    exact ⟨_, _, rfl, ⟨fun h' => absurd h' (by rw [h]; decide), fun _ => ⟨rfl, hown⟩⟩, hb⟩

structure Texts (w : World) (base : Nat) (l s : List UInt8) (x e : Value) : Prop where
  no : 65535 < s.length → x = .slice none 0 0 ∧ e = code 3
  yes : s.length ≤ 65535 → e = .nilIface ∧ Own w base 5 x (l ++ (bet s.length 2 ++ s))

theorem text_any (l s : List UInt8) (v u : Value) (w : World) (hl : l.length ≤ 140737488289790) (hs : s.length ≤ 140737488355328) (hv : Bs w v l) (hu : Bs w u s) :
    Calls Try.prog 8 #[v, u] w fun e w' => ∃ x f, e = .returned (.tuple #[x, f]) ∧ Texts w' w.heap.size l s x f ∧ Below w.heap.size w w' := by
  by_cases h : 65535 < s.length
  · refine (text_bad s v u w h hs hu).mono ?_
    rintro e w' ⟨rfl, rfl⟩
    exact ⟨_, _, rfl, ⟨fun _ => ⟨rfl, rfl⟩, fun h' => by omega⟩, Below.refl _ _⟩
  · refine (text_ok l s v u w (by omega) hl hv hu).mono ?_
    rintro e w' ⟨x, rfl, hown, hb⟩
    exact ⟨_, _, rfl, ⟨fun h' => absurd h' h, fun _ => ⟨rfl, hown⟩⟩, hb⟩

set_option maxRecDepth 100000 in
set_option maxHeartbeats 400000 in
theorem puts_long (l s : List UInt8) (b u : Value) (k n : Int) (w : World) (hb : Bs w b l) (hu : Bs w u s) (hl : l.length ≤ 9223372036854775807) (hs : s.length ≤ 9223372036854775807) (h : 2000 < l.length ∨ 70000 < s.length) :
    Calls Try.prog 3 #[b, .int .i64 k, .int .u64 n, u] w fun e w' => e = .returned (.bool true) ∧ Below w.heap.size w w' := by
  obtain ⟨A, c, rfl, hc1, hc2, hr⟩ := hb
  obtain ⟨A', c', rfl, hc1', hc2', hr'⟩ := hu
  by_cases h1 : 2000 < l.length
  · clear h
    go_enter Try.func3, Try.ntmps3
    go_wp2_with (go_at_call 6; refine (up_any _).mono ?_; rintro e w1 ⟨rfl, hb1⟩)
    go_ret
    exact ⟨rfl, hb1⟩
  · have h2 : 70000 < s.length := by omega
    clear h
    go_enter Try.func3, Try.ntmps3
    go_wp2_with (go_at_call 6; refine (up_any _).mono ?_; rintro e w1 ⟨rfl, hb1⟩)
    go_ret
    exact ⟨rfl, hb1⟩

set_option maxRecDepth 100000 in
set_option maxHeartbeats 1600000 in
theorem puts_main (l s : List UInt8) (b u : Value) (k n : Int) (w : World) (hb : Bs w b l) (hu : Bs w u s) (hl : l.length ≤ 2000) (hs : s.length ≤ 70000) (h0 : 0 ≤ n) (hn : n < 18446744073709551616) :
    Calls Try.prog 3 #[b, .int .i64 k, .int .u64 n, u] w fun e w' => e = .returned (.bool true) ∧ Below w.heap.size w w' := by
  have hb' := hb
  have hu' := hu
  obtain ⟨A, c, rfl, hc1, hc2, hr⟩ := hb'
  obtain ⟨A', c', rfl, hc1', hc2', hr'⟩ := hu'
  go_enter Try.func3, Try.ntmps3
  go_wp2_with fail
  refine (up_any _).mono ?_
  rintro e w1 ⟨rfl, hb1⟩
  have hz1 := hb1.size
  go_wp2_with (at_builtin; refine wpList_append_v _ byteT rfl _ _ rfl w.heap.size (.slice (some ⟨w1.heap.size, 0, none⟩) 0 0) [] rfl (Own.made w1 w.heap.size 5 #[] 0 hz1 (by simp [maxLen]) rfl) _ l rfl ((hb.below hb1).alloc _) (by simp; omega) (by simp; omega) ?_)
  intro own w2 hown2 hg2 _
  have hb2 : Below w.heap.size w w2 := (hb1.alloc hz1 _).grown hg2 (by simp; omega) (by intro k hk; simp [Value.ownBlock] at hk; omega)
  clear hg2
  go_wp2_with fail
  refine (put_any l own k n _ h0 (by omega) hown2.bs).mono ?_
  rintro e w3 ⟨x, e1, rfl, hx, hb3⟩
  go_wp2_with fail
  refine (text_any l s own _ _ (by omega) (by omega) (hown2.bs.below hb3) ((hu.below hb2).below hb3)).mono ?_
  rintro e w4 ⟨y, e2, rfl, hy, hb4⟩
  have hstr1 := strOf ((hown2.bs.below hb3).below hb4)
  have hstr2 := strOf (((hb.below hb2).below hb3).below hb4)
  have hz2 := hb2.size
  have hz3 := hb3.size
  have hbA : Below w.heap.size w w4 := (hb2.trans (hb3.mono hz2)).trans (hb4.mono (by omega))
  go_wp2_with fail
  refine (Wide_any k _).mono ?_
  rintro e w' ⟨rfl, rfl⟩
  have hbb : Bs w4 (.slice A l.length c) l := ((hb.below hb2).below hb3).below hb4
  have huu : Bs w4 (.slice A' s.length c') s := ((hu.below hb2).below hb3).below hb4
  have hxx : putOk k n = true → Bs w4 x (l ++ bet n.toNat k.toNat) := fun h => (hx.yes h).2.bs.below hb4
  have hx1 : putOk k n = true → e1 = .nilIface := fun h => (hx.yes h).1
  have hx0 := hx.no
  clear hb hu hr hr' hb1 hz1 hown2 hb2 hx hb3 hb4 hstr1 hstr2 hz2 hz3
  have HXX := Lib.hid hxx
  have HX1 := Lib.hid hx1
  have HX0 := Lib.hid hx0
  clear hxx hx1 hx0
  have eqc := eqCode
  have nec := neCode
  by_cases ht : 65535 < s.length
  · obtain ⟨rfl, rfl⟩ := hy.no ht
    clear hy
    cases hw : isW k with
    | false =>
      obtain ⟨rfl, rfl⟩ := HX0.out (by simp [putOk, hw])
      clear HXX HX1 HX0 hw
      go_wp2_with fail
      go_ret
      exact ⟨rfl, hbA⟩
    | true =>
      have hk8 := isW_cases hw
      have hkk : 0 ≤ k ∧ k ≤ 8 := by omega
      clear hk8
      cases hf : decide (n.toNat < 256 ^ k.toNat) with
      | false =>
        obtain ⟨rfl, rfl⟩ := HX0.out (by simp [putOk, hw] at hf ⊢; exact hf)
        have HF := Lib.hid hf
        clear HXX HX1 HX0 hw hf
        go_wp2_with (go_at_call 10; refine (Fits_any _ _ _ hkk.1 hkk.2 h0 hn).mono ?_; rintro e w' ⟨rfl, rfl⟩; rw [HF.out])
        go_ret
        exact ⟨rfl, hbA⟩
      | true =>
        have hp : putOk k n = true := by simp [putOk, hw] at hf ⊢; exact hf
        obtain rfl := HX1.out hp
        have hxs := HXX.out hp
        have HF := Lib.hid hf
        clear HXX HX1 HX0 hw hf hp
        go_wp2_with (go_at_call 10; refine (Fits_any _ _ _ hkk.1 hkk.2 h0 hn).mono ?_; rintro e w' ⟨rfl, rfl⟩; rw [HF.out])
        have hap := addStr l (bet n.toNat k.toNat) (by rw [bet_length]; omega)
        have hst1 : ∀ w', Below w4.heap.size w4 w' → (convert 22 9 x).run Try.prog w' = .ok (.string (Bstr (l ++ bet n.toNat k.toNat))) w' := fun w' h => strOf (hxs.below h)
        have hst2 : ∀ w', Below w4.heap.size w4 w' → (convert 22 9 (.slice A l.length c)).run Try.prog w' = .ok (.string (Bstr l)) w' := fun w' h => strOf (hbb.below h)
        refine wp_region_mix [(0, false), (1, false), (2, false), (3, false), (4, false), (5, false), (6, false), (7, false), (8, false), (9, true), (10, true), (11, true), (12, true), (13, true)] (fun w' => Below w4.heap.size w4 w') (by kernel_rfl) (by kernel_rfl) (by kernel_rfl) rfl (Below.refl _ _).drew ?_
        repeat
          (refine mix_read (o := ⟨_, _, _, _, _, _⟩) (v := ?_) rfl (by rfl) (fun w' hS => ?_) ?_
           rotate_left
           go_simp
           with_reducible rfl
           try simp only [Act.put, List.setIfInBounds_toArray, List.set_cons_zero, List.set_cons_succ])
        refine mix_step (o := ⟨_, _, _, _, _, _⟩) rfl (fun K hK => ?_)
        go_simp
        refine (Bytes_any _ _ _ hkk.1 hkk.2 h0 hn).mono ?_
        rintro e w5 ⟨v5, rfl, hown5, hb5⟩
        have hb5' : Below w4.heap.size w4 w5 := (Below.refl _ w4).drew.trans hb5
        have hst5 := strOf hown5.bs
        refine hK.out _ _ hb5' ?_
        clear hK K
        try simp only [Act.put, List.setIfInBounds_toArray, List.set_cons_zero, List.set_cons_succ]
        repeat
          (refine mix_step (o := ⟨_, _, _, _, _, _⟩) rfl (fun K hK => ?_)
           go_simp
           refine hK.out _ _ hb5' ?_
           clear hK K)
        refine mix_done ?_
        go_wp2
        go_ret
        exact ⟨rfl, hbA.trans (hb5'.mono hbA.size)⟩
  · obtain ⟨rfl, hown6⟩ := hy.yes (by omega)
    have hyy := hown6.bs
    clear hy hown6
    cases hw : isW k with
    | false =>
      obtain ⟨rfl, rfl⟩ := HX0.out (by simp [putOk, hw])
      clear HXX HX1 HX0 hw
      go_wp2_with fail
      have hap8 := addStr l (bet s.length 2 ++ s) (by rw [List.length_append, bet_length]; omega)
      have hst81 : ∀ w', Below w4.heap.size w4 w' → (convert 22 9 y).run Try.prog w' = .ok (.string (Bstr (l ++ (bet s.length 2 ++ s)))) w' := fun w' h => strOf ((hyy).below h)
      have hst82 : ∀ w', Below w4.heap.size w4 w' → (convert 22 9 (.slice A l.length c)).run Try.prog w' = .ok (.string (Bstr l)) w' := fun w' h => strOf ((hbb).below h)
      refine wp_region_mix [(0, false), (1, false), (2, false), (3, false), (4, false), (5, false), (6, false), (7, false), (8, false), (9, false), (10, false), (11, true), (12, true), (13, true), (14, true), (15, true), (16, true)] (fun w' => Below w4.heap.size w4 w') (by kernel_rfl) (by kernel_rfl) (by kernel_rfl) rfl (Below.refl _ _).drew ?_
      repeat
        (refine mix_read (o := ⟨_, _, _, _, _, _⟩) (v := ?_) rfl (by rfl) (fun w' hS => ?_) ?_
         rotate_left
         go_simp
         with_reducible rfl
         try simp only [Act.put, List.setIfInBounds_toArray, List.set_cons_zero, List.set_cons_succ])
      refine mix_step (o := ⟨_, _, _, _, _, _⟩) rfl (fun K hK => ?_)
      go_simp
      refine (Text_any s _ _ (by omega) (huu.drew)).mono ?_
      rintro e w8 ⟨v8, rfl, hown8, hb8⟩
      have hb8' : Below w4.heap.size w4 w8 := (Below.refl _ w4).drew.trans hb8
      have hst8 := strOf hown8.bs
      refine hK.out _ _ hb8' ?_
      clear hK K
      try simp only [Act.put, List.setIfInBounds_toArray, List.set_cons_zero, List.set_cons_succ]
      repeat
        (refine mix_step (o := ⟨_, _, _, _, _, _⟩) rfl (fun K hK => ?_)
         go_simp
         refine hK.out _ _ hb8' ?_
         clear hK K)
      refine mix_done ?_
      go_wp2
      go_ret
      exact ⟨rfl, (hbA).trans (hb8'.mono (hbA).size)⟩
    | true =>
      have hk8 := isW_cases hw
      have hkk : 0 ≤ k ∧ k ≤ 8 := by omega
      clear hk8
      cases hf : decide (n.toNat < 256 ^ k.toNat) with
      | false =>
        obtain ⟨rfl, rfl⟩ := HX0.out (by simp [putOk, hw] at hf ⊢; exact hf)
        have HF := Lib.hid hf
        clear HXX HX1 HX0 hw hf
        go_wp2_with (go_at_call 10; refine (Fits_any _ _ _ hkk.1 hkk.2 h0 hn).mono ?_; rintro e w' ⟨rfl, rfl⟩; rw [HF.out])
        have hap8 := addStr l (bet s.length 2 ++ s) (by rw [List.length_append, bet_length]; omega)
        have hst81 : ∀ w', Below w4.heap.size w4 w' → (convert 22 9 y).run Try.prog w' = .ok (.string (Bstr (l ++ (bet s.length 2 ++ s)))) w' := fun w' h => strOf ((hyy).below h)
        have hst82 : ∀ w', Below w4.heap.size w4 w' → (convert 22 9 (.slice A l.length c)).run Try.prog w' = .ok (.string (Bstr l)) w' := fun w' h => strOf ((hbb).below h)
        refine wp_region_mix [(0, false), (1, false), (2, false), (3, false), (4, false), (5, false), (6, false), (7, false), (8, false), (9, false), (10, false), (11, true), (12, true), (13, true), (14, true), (15, true), (16, true)] (fun w' => Below w4.heap.size w4 w') (by kernel_rfl) (by kernel_rfl) (by kernel_rfl) rfl (Below.refl _ _).drew ?_
        repeat
          (refine mix_read (o := ⟨_, _, _, _, _, _⟩) (v := ?_) rfl (by rfl) (fun w' hS => ?_) ?_
           rotate_left
           go_simp
           with_reducible rfl
           try simp only [Act.put, List.setIfInBounds_toArray, List.set_cons_zero, List.set_cons_succ])
        refine mix_step (o := ⟨_, _, _, _, _, _⟩) rfl (fun K hK => ?_)
        go_simp
        refine (Text_any s _ _ (by omega) (huu.drew)).mono ?_
        rintro e w8 ⟨v8, rfl, hown8, hb8⟩
        have hb8' : Below w4.heap.size w4 w8 := (Below.refl _ w4).drew.trans hb8
        have hst8 := strOf hown8.bs
        refine hK.out _ _ hb8' ?_
        clear hK K
        try simp only [Act.put, List.setIfInBounds_toArray, List.set_cons_zero, List.set_cons_succ]
        repeat
          (refine mix_step (o := ⟨_, _, _, _, _, _⟩) rfl (fun K hK => ?_)
           go_simp
           refine hK.out _ _ hb8' ?_
           clear hK K)
        refine mix_done ?_
        go_wp2
        go_ret
        exact ⟨rfl, (hbA).trans (hb8'.mono (hbA).size)⟩
      | true =>
        have hp : putOk k n = true := by simp [putOk, hw] at hf ⊢; exact hf
        obtain rfl := HX1.out hp
        have hxs := HXX.out hp
        have HF := Lib.hid hf
        clear HXX HX1 HX0 hw hf hp
        go_wp2_with (go_at_call 10; refine (Fits_any _ _ _ hkk.1 hkk.2 h0 hn).mono ?_; rintro e w' ⟨rfl, rfl⟩; rw [HF.out])
        have hap := addStr l (bet n.toNat k.toNat) (by rw [bet_length]; omega)
        have hst1 : ∀ w', Below w4.heap.size w4 w' → (convert 22 9 x).run Try.prog w' = .ok (.string (Bstr (l ++ bet n.toNat k.toNat))) w' := fun w' h => strOf (hxs.below h)
        have hst2 : ∀ w', Below w4.heap.size w4 w' → (convert 22 9 (.slice A l.length c)).run Try.prog w' = .ok (.string (Bstr l)) w' := fun w' h => strOf (hbb.below h)
        refine wp_region_mix [(0, false), (1, false), (2, false), (3, false), (4, false), (5, false), (6, false), (7, false), (8, false), (9, true), (10, true), (11, true), (12, true), (13, true)] (fun w' => Below w4.heap.size w4 w') (by kernel_rfl) (by kernel_rfl) (by kernel_rfl) rfl (Below.refl _ _).drew ?_
        repeat
          (refine mix_read (o := ⟨_, _, _, _, _, _⟩) (v := ?_) rfl (by rfl) (fun w' hS => ?_) ?_
           rotate_left
           go_simp
           with_reducible rfl
           try simp only [Act.put, List.setIfInBounds_toArray, List.set_cons_zero, List.set_cons_succ])
        refine mix_step (o := ⟨_, _, _, _, _, _⟩) rfl (fun K hK => ?_)
        go_simp
        refine (Bytes_any _ _ _ hkk.1 hkk.2 h0 hn).mono ?_
        rintro e w5 ⟨v5, rfl, hown5, hb5⟩
        have hb5' : Below w4.heap.size w4 w5 := (Below.refl _ w4).drew.trans hb5
        have hst5 := strOf hown5.bs
        refine hK.out _ _ hb5' ?_
        clear hK K
        try simp only [Act.put, List.setIfInBounds_toArray, List.set_cons_zero, List.set_cons_succ]
        repeat
          (refine mix_step (o := ⟨_, _, _, _, _, _⟩) rfl (fun K hK => ?_)
           go_simp
           refine hK.out _ _ hb5' ?_
           clear hK K)
        refine mix_done ?_
        clear hst1 hst2 hap hst5 hown5 hb5
        go_wp2_with fail
        have hap8 := addStr l (bet s.length 2 ++ s) (by rw [List.length_append, bet_length]; omega)
        have hst81 : ∀ w', Below w5.heap.size w5 w' → (convert 22 9 y).run Try.prog w' = .ok (.string (Bstr (l ++ (bet s.length 2 ++ s)))) w' := fun w' h => strOf ((hyy.below hb5').below h)
        have hst82 : ∀ w', Below w5.heap.size w5 w' → (convert 22 9 (.slice A l.length c)).run Try.prog w' = .ok (.string (Bstr l)) w' := fun w' h => strOf ((hbb.below hb5').below h)
        refine wp_region_mix [(0, false), (1, false), (2, false), (3, false), (4, false), (5, false), (6, false), (7, false), (8, false), (9, false), (10, false), (11, true), (12, true), (13, true), (14, true), (15, true), (16, true)] (fun w' => Below w5.heap.size w5 w') (by kernel_rfl) (by kernel_rfl) (by kernel_rfl) rfl (Below.refl _ _).drew ?_
        repeat
          (refine mix_read (o := ⟨_, _, _, _, _, _⟩) (v := ?_) rfl (by rfl) (fun w' hS => ?_) ?_
           rotate_left
           go_simp
           with_reducible rfl
           try simp only [Act.put, List.setIfInBounds_toArray, List.set_cons_zero, List.set_cons_succ])
        refine mix_step (o := ⟨_, _, _, _, _, _⟩) rfl (fun K hK => ?_)
        go_simp
        refine (Text_any s _ _ (by omega) ((huu.below hb5').drew)).mono ?_
        rintro e w8 ⟨v8, rfl, hown8, hb8⟩
        have hb8' : Below w5.heap.size w5 w8 := (Below.refl _ w5).drew.trans hb8
        have hst8 := strOf hown8.bs
        refine hK.out _ _ hb8' ?_
        clear hK K
        try simp only [Act.put, List.setIfInBounds_toArray, List.set_cons_zero, List.set_cons_succ]
        repeat
          (refine mix_step (o := ⟨_, _, _, _, _, _⟩) rfl (fun K hK => ?_)
           go_simp
           refine hK.out _ _ hb8' ?_
           clear hK K)
        refine mix_done ?_
        go_wp2
        go_ret
        exact ⟨rfl, (hbA.trans (hb5'.mono hbA.size)).trans (hb8'.mono (hbA.trans (hb5'.mono hbA.size)).size)⟩

theorem puts_any (l s : List UInt8) (b u : Value) (k n : Int) (w : World) (hb : Bs w b l) (hu : Bs w u s) (hl : l.length ≤ 9223372036854775807) (hs : s.length ≤ 9223372036854775807) (h0 : 0 ≤ n) (hn : n < 18446744073709551616) :
    Calls Try.prog 3 #[b, .int .i64 k, .int .u64 n, u] w fun e w' => e = .returned (.bool true) ∧ Below w.heap.size w w' := by
  by_cases h : 2000 < l.length ∨ 70000 < s.length
  · exact puts_long l s b u k n w hb hu hl hs h
  · exact puts_main l s b u k n w hb hu (by omega) (by omega) h0 hn

end Go.Proofs.Ytkffefbljmkdjaa

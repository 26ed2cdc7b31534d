/-
  CONTRACTS of crc.Open at four bytes and more, and of the document's own Seal and Open; tankardlaw00.Code.
-/
import Derived.Test.YtkhdlcoappkgkaaDoorCrcC
import Derived.Test.YtkhdlcoappkgkaaDoorCode
import Derived.Test.YtkhdlcoappkgkaaDoorMix
namespace Go.Proofs.YtkhdlcoappkgkaaDoor
open Go.RowKit

theorem bodyOf_length (l : List UInt8) : (bodyOf l).length = l.length - 4 := by simp [bodyOf]

/-- Open at four bytes and more -/
structure Opened (w : World) (base : Nat) (l : List UInt8) (x e : Value) : Prop where
  no : tailOf l ≠ crcOf (bodyOf l) → x = .slice none 0 0 ∧ e = code 7
  yes : tailOf l = crcOf (bodyOf l) → e = .nilIface ∧ Own w base 5 x (bodyOf l)

set_option maxHeartbeats 800000 in
theorem open_long (l : List UInt8) (v : Value) (w : World) (h4 : 4 ≤ l.length) (hl : l.length ≤ 140737488355328) (hv : Bs w v l) :
    Calls Tryd.prog 31 #[v] w fun e w' => ∃ x f, e = .returned (.tuple #[x, f]) ∧ Opened w' w.heap.size l x f ∧ Below w.heap.size w w' := by
  obtain ⟨n, hn⟩ : ∃ n, n = l.length - 4 := ⟨_, rfl⟩
  obtain ⟨A, c, rfl, hc1, hc2, hr⟩ := hv
  obtain ⟨V, hsl, hV, hVb⟩ := slice_bytes_to (P := Tryd.prog) w byteT elemB hr hc1 hc2 n (by omega) ((l.length : Int) - 4) (by omega)
  obtain ⟨U, hsu, hU, _⟩ := slice_bytes_from (P := Tryd.prog) w byteT elemB hr hc1 hc2 n (by omega) ((l.length : Int) - 4) (by omega)
  have hbody : bodyOf l = l.take n := by rw [hn]; rfl
  have htail : num (((l.drop n).drop 0).take (Int.toNat 4)) = tailOf l := by
    rw [List.drop_zero, show Int.toNat 4 = 4 from rfl, List.take_of_length_le (by simp; omega), hn]
    rfl
  have hok : wordOk (l.drop n) 0 false 4 = true := by simp [wordOk, isW]; omega
  have ht := tailOf_lt l
  have hcr := crcOf_lt (bodyOf l)
  have hbl := bodyOf_length l
  rw [← hbody] at hV
  have HB := Lib.hid hbody
  have HTL := Lib.hid htail
  have HOK := Lib.hid hok
  clear hbody htail hok hVb
  go_enter Tryd.func31, Tryd.ntmps31
  go_wp2_with fail
  refine (read_any U (l.drop n) _ hU).mono ?_
  rintro e w1 ⟨rfl, hW1, hb1⟩
  go_wp2_with fail
  refine (word_yes _ U (l.drop n) 0 false 4 _ hW1 HOK.out).mono ?_
  rintro e w2 ⟨rfl, hW2, hg2⟩
  rw [HTL.out]
  have hb2 : Below w.heap.size w w2 := hb1.grown hg2 hb1.size (by intro k hk; injection hk; omega)
  have hV2 := hV.below hb2
  clear hW1 hW2 hg2 hb1 hU hsl hsu hV
  go_wp2_with fail
  refine (sum_any (bodyOf l) V _ hV2).mono ?_
  rintro e w3 ⟨rfl, rfl⟩
  by_cases heq : tailOf l = crcOf (bodyOf l)
  · have HE := Lib.hid heq
    rw [heq]
    clear heq
    go_wp2_with fail
    refine (clone_any (bodyOf l) V _ (by omega) hV2).mono ?_
    rintro e w4 ⟨v4, rfl, hown4, hb4⟩
    go_wp2_with fail
    go_ret2
    exact ⟨_, _, rfl, ⟨fun h => absurd HE.out h, fun _ => ⟨rfl, hown4.lower hb2.size⟩⟩, hb2.trans (hb4.mono hb2.size)⟩
  · have hne : ((tailOf l : Int) == (crcOf (bodyOf l) : Int)) = false := by
      rw [beq_eq_false_iff_ne]
      omega
    have HE := Lib.hid heq
    clear heq
    go_wp2_with fail
    go_ret2
    exact ⟨_, _, rfl, ⟨fun _ => ⟨rfl, rfl⟩, fun h => absurd h HE.out⟩, hb2⟩

set_option maxHeartbeats 400000 in
theorem Seal_any (l : List UInt8) (v : Value) (w : World) (hl : l.length ≤ 140737488355320) (hv : Bs w v l) :
    Calls Tryd.prog 14 #[v] w fun e w' => ∃ v', e = .returned v' ∧ Own w' w.heap.size 5 v' (sealedOf l) ∧ Below w.heap.size w w' := by
  have hc := crcOf_lt l
  go_enter Tryd.func14, Tryd.ntmps14
  go_wp2_with (at_builtin; refine wpList_append_v _ byteT rfl _ _ rfl w.heap.size (.slice (some ⟨w.heap.size, 0, none⟩) 0 0) [] rfl (Own.made w w.heap.size 5 #[] 0 (Nat.le_refl _) (by simp [maxLen]) rfl) _ l rfl (hv.alloc _) (by simp; omega) (by simp) ?_)
  intro v2 w2 hown2 hg2 _
  have hb2 : Below w.heap.size w w2 := ((Below.refl _ w).alloc (Nat.le_refl _) _).grown hg2 (by simp) (by intro k hk; simp [Value.ownBlock] at hk; omega)
  clear hg2
  go_wp2_with fail
  refine (Sum_any l v _ (hv.below hb2)).mono ?_
  rintro e w' ⟨rfl, rfl⟩
  go_wp2_with fail
  refine (Bytes_any 4 (crcOf l) _ (by omega) (by omega) (by omega) (by omega)).mono ?_
  rintro e w3 ⟨v3, rfl, hown3, hb3⟩
  rw [Int.toNat_natCast, show Int.toNat 4 = 4 from rfl] at hown3
  have hz2 := hb2.size
  have hz3 := hb3.size
  go_wp2_with (at_builtin; refine wpList_append_v _ byteT rfl _ _ rfl w.heap.size v2 l rfl (hown2.below hb3) _ _ rfl hown3.bs (by rw [bet_length]; omega) (by omega) ?_)
  intro v4 w4 hown4 hg4 _
  have hb4 : Below w.heap.size w w4 := (hb2.trans (hb3.mono hz2)).grown hg4 (by omega) hown2.ge
  clear hg4
  go_wp2_with fail
  go_ret
  exact ⟨_, rfl, hown4, hb4⟩

/-- the document's Open at four bytes and more -/
structure Opened' (w : World) (l : List UInt8) (x e : Value) : Prop where
  no : tailOf l ≠ crcOf (bodyOf l) → x = .slice none 0 0 ∧ e = .int .i64 7
  yes : tailOf l = crcOf (bodyOf l) → e = .int .i64 0 ∧ Bs w x (bodyOf l)

theorem Open_short (l : List UInt8) (v : Value) (w : World) (hl : l.length < 4) (hv : Bs w v l) :
    Calls Tryd.prog 35 #[v] w fun e w' => e = .returned (.tuple #[.slice none 0 0, .int .i64 2]) ∧ w = w' := by
  obtain ⟨A, c, rfl, hc1, hc2, hr⟩ := hv
  go_enter Tryd.func35, Tryd.ntmps35
  go_wp2_with fail
  go_ret2
  exact ⟨rfl, rfl⟩

set_option maxHeartbeats 800000 in
theorem Open_long (l : List UInt8) (v : Value) (w : World) (h4 : 4 ≤ l.length) (hl : l.length ≤ 140737488355320) (hv : Bs w v l) :
    Calls Tryd.prog 35 #[v] w fun e w' => ∃ x f, e = .returned (.tuple #[x, f]) ∧ Opened' w' l x f ∧ Below w.heap.size w w' := by
  obtain ⟨n, hn⟩ : ∃ n, n = l.length - 4 := ⟨_, rfl⟩
  have hvv := hv
  obtain ⟨A, c, rfl, hc1, hc2, hr⟩ := hv
  obtain ⟨V, hsl, hV, hVb⟩ := slice_bytes_to (P := Tryd.prog) w byteT elemB hr hc1 hc2 n (by omega) ((l.length : Int) - 4) (by omega)
  have hbody : bodyOf l = l.take n := by rw [hn]; rfl
  have hbl := bodyOf_length l
  have HIFF := Lib.hid (sealed_iff l h4)
  rw [← hbody] at hV
  clear hbody hVb
  go_enter Tryd.func35, Tryd.ntmps35
  go_wp2_with fail
  have hst : ∀ w', Below w.heap.size w w' → (convert 28 9 (.slice A l.length c)).run Tryd.prog w' = .ok (.string (Bstr l)) w' := fun w' h => strOf (hvv.below h)
  refine wp_region_mix [(0, false), (1, false), (2, false), (5, false), (6, false), (3, true), (4, true), (7, true)] (fun w' => Below w.heap.size w w') (by kernel_rfl) (by kernel_rfl) (by kernel_rfl) rfl (Below.refl _ _).drew ?_
  repeat
    (refine mix_read (o := ⟨_, _, _, _, _, _⟩) (v := ?_) rfl (by rfl) (fun w' hS => ?_) ?_
     rotate_left
     go_simp
     with_reducible rfl
     try simp only [Act.put, List.setIfInBounds_toArray, List.set_cons_zero, List.set_cons_succ])
  refine mix_step (o := ⟨_, _, _, _, _, _⟩) rfl (fun K hK => ?_)
  go_simp
  refine (Seal_any (bodyOf l) V _ (by omega) hV.drew).mono ?_
  rintro e w5 ⟨v5, rfl, hown5, hb5⟩
  have hb5' : Below w.heap.size w w5 := (Below.refl _ w).drew.trans hb5
  have hst5 := strOf hown5.bs
  refine hK.out _ _ hb5' ?_
  clear hK K
  try simp only [Act.put, List.setIfInBounds_toArray, List.set_cons_zero, List.set_cons_succ]
  repeat
    (refine mix_step (o := ⟨_, _, _, _, _, _⟩) rfl (fun K hK => ?_)
     go_simp
     refine hK.out _ _ hb5' ?_
     clear hK K)
  refine mix_done ?_
  have hV5 := hV.below hb5'
  by_cases heq : sealedOf (bodyOf l) = l
  · have hd : (!(Bstr (sealedOf (bodyOf l))).toList == (Bstr l).toList) = false := by rw [heq]; simp
    have HE := Lib.hid (HIFF.out.1 heq)
    rw [hd]
    clear hd heq hst hst5
    go_wp2_with fail
    go_ret2
    exact ⟨_, _, rfl, ⟨fun h => absurd HE.out h, fun _ => ⟨rfl, hV5⟩⟩, hb5'⟩
  · have hd : (!(Bstr (sealedOf (bodyOf l))).toList == (Bstr l).toList) = true := by
      rw [Bstr_toList, Bstr_toList]
      simpa using heq
    have HE := Lib.hid (fun h => heq (HIFF.out.2 h))
    rw [hd]
    clear hd heq hst hst5
    go_wp2_with fail
    go_ret2
    exact ⟨_, _, rfl, ⟨fun _ => ⟨rfl, rfl⟩, fun h => absurd h HE.out⟩, hb5'⟩

end Go.Proofs.YtkhdlcoappkgkaaDoor

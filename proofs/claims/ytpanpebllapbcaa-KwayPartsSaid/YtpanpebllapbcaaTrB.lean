/-
  CONTRACTS of the comparisons: span.Compare once more (it lays blocks alone), trace's compareWhole, compareInTraces, isOfOne, bytes.Compare, and the document's Less.
-/
import Derived.Test.YtpanpebllapbcaaTrA
import Derived.Test.YtpanpebllapbcaaMix
namespace Go.Proofs.Ytpanpebllapbcaa
open Go.RowKit
set_option maxRecDepth 100000


/-- only blocks and draws are new -/
def Only (w w' : World) : Prop := ∃ q os, w' = Sort.grow (w.drewN q) os

section
variable {w w' w'' : World}
theorem Only.refl (w : World) : Only w w := ⟨0, #[], by simp [Sort.grow, World.drewN]⟩
theorem Only.alloc (h : Only w w') (o : Obj) : Only w (w'.alloc o) := by
  obtain ⟨q, os, rfl⟩ := h
  exact ⟨q, os ++ #[o], by rw [Sort.alloc_eq_grow, Sort.grow_grow]⟩
theorem Only.drew (h : Only w w') : Only w w'.drew := by
  obtain ⟨q, os, rfl⟩ := h
  exact ⟨q + 1, os, rfl⟩
theorem Only.trans (h : Only w w') (h' : Only w' w'') : Only w w'' := by
  obtain ⟨q, os, rfl⟩ := h
  obtain ⟨q', os', rfl⟩ := h'
  exact ⟨q + q', os ++ os', by rw [← Sort.grow_grow]; simp [Sort.grow, World.drewN, Nat.add_assoc]⟩
theorem Only.below (h : Only w w') : Below w.heap.size w w' := by
  obtain ⟨q, os, rfl⟩ := h
  exact ⟨rfl, rfl, rfl, by simp [World.drewN], fun k hk => by rw [Sort.heap_grow_old _ _ (by simpa [World.drewN] using hk)]; rfl⟩
end

/-- the first that isn't 0 -/
def orL : List Int → Int
  | [] => 0
  | a :: l => if a ≠ 0 then a else orL l
theorem orL_take : ∀ (l : List Int) (k : Nat), (∀ x ∈ l.take k, x = 0) → orL l = orL (l.drop k)
  | _, 0, _ => by simp
  | [], _ + 1, _ => by simp
  | a :: l, k + 1, h => by
    have h0 : a = 0 := h a (by simp)
    subst h0
    rw [orL, if_neg (by simp), List.drop_succ_cons]
    exact orL_take l k fun x hx => h x (by simp [hx])

set_option maxHeartbeats 800000 in
theorem or_list (l : List Int) (g : Nat) (w : World) (h : Blk w g 3 (l.map (Value.int .i64)).toArray) (hl : l.length ≤ 1000) :
    Calls Try.prog 59 #[.slice (some ⟨g, 0, none⟩) l.length l.length] w fun e w' => e = .returned (.int .i64 (orL l)) ∧ w = w' := by
  have H := Lib.hid h
  clear h
  go_enter Try.func59, Try.ntmps59
  go_wp2_with fail
  go_loop [5, 8] (fun _ i => ∃ k : Nat, k ≤ l.length ∧ i = .int .i64 k ∧ Hid (∀ x ∈ l.take k, x = 0)) (fun _ i => l.length - (intOf i).toNat)
  case atStart => exact ⟨0, Nat.zero_le _, rfl, Lib.hid (by simp)⟩
  case round =>
    obtain ⟨k, hk, rfl, HK⟩ := hrel
    by_cases hlt : k < l.length
    · have c0 := H.out.cell k
      rw [List.getElem?_toArray, List.getElem?_map, List.getElem?_eq_getElem hlt, Option.map_some] at c0
      have HE := Lib.hid (orL_take l k HK.out)
      have HD := Lib.hid (List.drop_eq_getElem_cons hlt)
      have HT := Lib.hid (List.take_succ_eq_append_getElem hlt)
      generalize l[k] = x at c0 HD HT
      by_cases hx : x = 0
      · subst hx
        go_wp2_with fail
        refine ⟨⟨k + 1, by omega, by go_num, Lib.hid ?_⟩, by simp [intOf]; omega⟩
        intro y hy
        rw [HT.out] at hy
        rcases List.mem_append.1 hy with hy | hy
        · exact HK.out y hy
        · simpa using hy
      · have hx' : (x == 0) = false := by simpa using hx
        have HX := Lib.hid hx
        clear hx
        go_wp2_with fail
        go_ret
        refine ⟨?_, rfl⟩
        rw [HE.out, HD.out, orL, if_pos HX.out]
        rfl
    · go_wp2_with fail
      go_ret
      refine ⟨?_, rfl⟩
      have e := orL_take l k HK.out
      rw [List.drop_of_length_le (by omega)] at e
      rw [e]
      rfl

section
variable {P : Program} (w : World)
theorem run_loadB : ∀ (l : List UInt8) (a : Addr) (acc : ByteArray), (∀ j u, (BV l)[j]? = some u → w.cell? (a.add j) = some u) →
    (Extern.Bytes.loadBytes a l.length acc).run P w = .ok ⟨acc.data ++ l.toArray⟩ w
  | [], a, acc, _ => by simp [Extern.Bytes.loadBytes]
  | x :: l, a, acc, h => by
    have h0 : w.cell? a = some (.int .u8 (x.toNat : Int)) := by
      have := h 0 _ rfl
      simpa [Addr.add] using this
    have ih := run_loadB l (a.add 1) (acc.push x) (fun j y hy => by
      have := h (j + 1) y (by simpa [BV] using hy)
      rw [add_add, Nat.add_comm 1 j]; exact this)
    simp only [List.length_cons, Extern.Bytes.loadBytes, Sem.run_bind, run_load, h0, Result.andThen, Int.toNat_natCast]
    rw [show x.toNat.toUInt8 = x by simp, ih]
    congr 1
    apply ByteArray.ext
    simp [ByteArray.push]
theorem run_bytesOf {v : Value} {l : List UInt8} (h : Bs w v l) : (Extern.Bytes.bytesOf v).run P w = .ok ⟨l.toArray⟩ w := by
  obtain ⟨A, c, rfl, h1, h2, hr⟩ := h
  cases A with
  | none =>
    have hk : l = [] := by
      have := hr.noneEq
      simpa [BV] using this
    subst hk
    rfl
  | some ad =>
    have := run_loadB (P := P) w l ad .empty hr.cells
    unfold Extern.Bytes.bytesOf
    rw [this]
    congr 1
    apply ByteArray.ext
    show (#[] : Array UInt8) ++ l.toArray = l.toArray
    simp
theorem run_bcompare {v u : Value} {l m : List UInt8} (h : Bs w v l) (h' : Bs w u m) : (Extern.BytealgCompare.compare #[v, u]).run P w = .ok (.int .i64 (Lib.compareBytes l m)) w := by
  have e1 := run_bytesOf (P := P) w h
  have e2 := run_bytesOf (P := P) w h'
  change Sem.run P (do pure (goInt (Extern.BytealgCompare.cmp (← Extern.Bytes.bytesOf v) (← Extern.Bytes.bytesOf u)))) w = _
  simp only [Sem.run_bind, Sem.run_pure, e1, e2, Result.andThen]
  rw [Lib.cmp_eq]
  rfl
end

theorem bcompare_any (va vb : Value) (a b : List UInt8) (w : World) (ha : Bs w va a) (hb : Bs w vb b) :
    Calls Try.prog 66 #[va, vb] w fun e w' => e = .returned (.int .i64 (Lib.compareBytes a b)) ∧ w = w' := by
  have hr := run_bcompare (P := Try.prog) w ha hb
  generalize Lib.compareBytes a b = x at hr ⊢
  go_enter Try.func66, Try.ntmps66
  go_wp2_with fail
  rw [run_callFunc_extern Try.func79 (by kernel_rfl) (by kernel_rfl) (by kernel_rfl) (e := Extern.BytealgCompare.compare) (by kernel_rfl), hr]
  simp only [Result.andThen]
  rw [Oper.upon_value]
  go_wp2
  go_ret
  exact ⟨rfl, rfl⟩

theorem orI_list (a b c : Int) : orI a b c = orL [a, b, c] := by
  simp only [orI, orL]
  repeat' split
  all_goals omega

set_option maxHeartbeats 800000 in
set_option maxRecDepth 100000 in
theorem compare_only (va vb : Value) (a b : Sn) (w : World) (ha : SV w va a) (hb : SV w vb b) :
    Calls Try.prog 41 #[va, vb] w fun e w' => e = .returned (.int .i64 (cmpS a b)) ∧ Only w w' := by
  obtain ⟨ho, d, rfl, hd⟩ := ha
  obtain ⟨ho', d', rfl, hd'⟩ := hb
  go_enter Try.func41, Try.ntmps41
  go_wp2_with fail
  have hA : Blk ((w.alloc (.cells #[.int .u64 a.tr, .int .u64 a.id, .int .i64 a.st, .int .i64 a.en, d] 51)).alloc (.cells #[.int .u64 b.tr, .int .u64 b.id, .int .i64 b.st, .int .i64 b.en, d'] 51)) w.heap.size 51 #[.int .u64 a.tr, .int .u64 a.id, .int .i64 a.st, .int .i64 a.en, d] := (Blk.new _ _ _).alloc _
  have hB := Blk.new (w.alloc (.cells #[.int .u64 a.tr, .int .u64 a.id, .int .i64 a.st, .int .i64 a.en, d] 51)) 51 #[.int .u64 b.tr, .int .u64 b.id, .int .i64 b.st, .int .i64 b.en, d']
  have hb : Only w ((w.alloc (.cells #[.int .u64 a.tr, .int .u64 a.id, .int .i64 a.st, .int .i64 a.en, d] 51)).alloc (.cells #[.int .u64 b.tr, .int .u64 b.id, .int .i64 b.st, .int .i64 b.en, d'] 51)) := ((Only.refl _).alloc _).alloc _
  revert hA hB hb
  generalize (w.alloc (.cells #[.int .u64 a.tr, .int .u64 a.id, .int .i64 a.st, .int .i64 a.en, d] 51)).alloc (.cells #[.int .u64 b.tr, .int .u64 b.id, .int .i64 b.st, .int .i64 b.en, d'] 51) = w1
  intro hA hB hb
  have a0 := hA.cell 0
  have a1 := hA.cell 1
  have a2 := hA.cell 2
  have b0 := hB.cell 0
  have b1 := hB.cell 1
  have b2 := hB.cell 2
  simp at a0 a1 a2 b0 b1 b2
  refine wp_region_still_tail 15 (by kernel_rfl) (by kernel_rfl) ?_
  simp only [List.take_succ_cons, List.take_zero, List.drop_succ_cons, List.drop_zero]
  still_step
  still_step
  still_step
  still_step
  still_call ((cmp_i64 _ _ _).mono fun _ _ ⟨he, hw⟩ => ⟨he, hw.symm⟩)
  still_step
  still_step
  still_step
  still_step
  still_call ((cmp_u64 _ _ _).mono fun _ _ ⟨he, hw⟩ => ⟨he, hw.symm⟩)
  still_step
  still_step
  still_step
  still_step
  still_call ((cmp_u64 _ _ _).mono fun _ _ ⟨he, hw⟩ => ⟨he, hw.symm⟩)
  refine wpStill_nil ?_
  go_wp2_with fail
  refine (or_list [_, _, _] w1.heap.size _ (show Blk (w1.alloc _).drew _ _ _ from Blk.new w1 _ _) (by simp)).mono ?_
  rintro e w2 ⟨rfl, rfl⟩
  go_wp2_with fail
  go_ret
  exact ⟨by rw [cmpS, orI_list]; rfl, (hb.alloc _).drew⟩

theorem cmpW_or (a b : Sn) : cmpW a b = if orL [cmpI a.tr b.tr, cmpI a.id b.id, cmpI a.st b.st, cmpI a.en b.en] ≠ 0 then orL [cmpI a.tr b.tr, cmpI a.id b.id, cmpI a.st b.st, cmpI a.en b.en] else Lib.compareBytes a.data b.data := by
  simp only [cmpW, cmpL, lexC, orL]
  repeat' split
  all_goals first | omega | rfl | skip

set_option maxHeartbeats 1600000 in
set_option maxRecDepth 100000 in
theorem whole_only (va vb : Value) (a b : Sn) (w : World) (ha : SV w va a) (hb : SV w vb b) :
    Calls Try.prog 54 #[va, vb] w fun e w' => e = .returned (.int .i64 (cmpW a b)) ∧ Only w w' := by
  obtain ⟨ho, d, rfl, hd⟩ := ha
  obtain ⟨ho', d', rfl, hd'⟩ := hb
  have HC := Lib.hid (cmpW_or a b)
  go_enter Try.func54, Try.ntmps54
  go_wp2_with fail
  have hA : Blk ((w.alloc (.cells #[.int .u64 a.tr, .int .u64 a.id, .int .i64 a.st, .int .i64 a.en, d] 51)).alloc (.cells #[.int .u64 b.tr, .int .u64 b.id, .int .i64 b.st, .int .i64 b.en, d'] 51)) w.heap.size 51 #[.int .u64 a.tr, .int .u64 a.id, .int .i64 a.st, .int .i64 a.en, d] := (Blk.new _ _ _).alloc _
  have hB := Blk.new (w.alloc (.cells #[.int .u64 a.tr, .int .u64 a.id, .int .i64 a.st, .int .i64 a.en, d] 51)) 51 #[.int .u64 b.tr, .int .u64 b.id, .int .i64 b.st, .int .i64 b.en, d']
  have hb : Only w ((w.alloc (.cells #[.int .u64 a.tr, .int .u64 a.id, .int .i64 a.st, .int .i64 a.en, d] 51)).alloc (.cells #[.int .u64 b.tr, .int .u64 b.id, .int .i64 b.st, .int .i64 b.en, d'] 51)) := ((Only.refl _).alloc _).alloc _
  revert hA hB hb
  generalize (w.alloc (.cells #[.int .u64 a.tr, .int .u64 a.id, .int .i64 a.st, .int .i64 a.en, d] 51)).alloc (.cells #[.int .u64 b.tr, .int .u64 b.id, .int .i64 b.st, .int .i64 b.en, d'] 51) = w1
  intro hA hB hb
  have a0 := hA.cell 0
  have a1 := hA.cell 1
  have a2 := hA.cell 2
  have a3 := hA.cell 3
  have b0 := hB.cell 0
  have b1 := hB.cell 1
  have b2 := hB.cell 2
  have b3 := hB.cell 3
  simp at a0 a1 a2 a3 b0 b1 b2 b3
  refine wp_region_still_tail 20 (by kernel_rfl) (by kernel_rfl) ?_
  simp only [List.take_succ_cons, List.take_zero, List.drop_succ_cons, List.drop_zero]
  still_step
  still_step
  still_step
  still_step
  still_call ((cmp_u64 _ _ _).mono fun _ _ ⟨he, hw⟩ => ⟨he, hw.symm⟩)
  still_step
  still_step
  still_step
  still_step
  still_call ((cmp_u64 _ _ _).mono fun _ _ ⟨he, hw⟩ => ⟨he, hw.symm⟩)
  still_step
  still_step
  still_step
  still_step
  still_call ((cmp_i64 _ _ _).mono fun _ _ ⟨he, hw⟩ => ⟨he, hw.symm⟩)
  still_step
  still_step
  still_step
  still_step
  still_call ((cmp_i64 _ _ _).mono fun _ _ ⟨he, hw⟩ => ⟨he, hw.symm⟩)
  refine wpStill_nil ?_
  go_wp2_with fail
  refine (or_list [_, _, _, _] w1.heap.size _ (show Blk (w1.alloc _).drew _ _ _ from Blk.new w1 _ _) (by simp)).mono ?_
  rintro e w2 ⟨rfl, hw2⟩
  obtain ⟨hA2, hB2, hb2⟩ : Blk w2 w.heap.size 51 #[.int .u64 a.tr, .int .u64 a.id, .int .i64 a.st, .int .i64 a.en, d] ∧ Blk w2 (w.alloc (.cells #[.int .u64 a.tr, .int .u64 a.id, .int .i64 a.st, .int .i64 a.en, d] 51)).heap.size 51 #[.int .u64 b.tr, .int .u64 b.id, .int .i64 b.st, .int .i64 b.en, d'] ∧ Only w w2 := by
    subst hw2
    exact ⟨hA.alloc _, hB.alloc _, (hb.alloc _).drew⟩
  clear hw2
  generalize orL [cmpI a.tr b.tr, cmpI a.id b.id, cmpI a.st b.st, cmpI a.en b.en] = x at HC ⊢
  have a4 := hA2.cell 4
  have b4 := hB2.cell 4
  simp at a4 b4
  have hda := hd.below hb2.below
  have hdb := hd'.below hb2.below
  clear hA hB hA2 hB2 a0 a1 a2 a3 b0 b1 b2 b3 hd hd' hb
  by_cases hx : x = 0
  · have HX := Lib.hid hx
    subst hx
    go_wp2_with fail
    refine (bcompare_any _ _ _ _ _ hda hdb).mono ?_
    rintro e w3 ⟨rfl, rfl⟩
    go_wp2_with fail
    go_ret
    refine ⟨?_, hb2⟩
    rw [HC.out, if_neg (by simp)]
    rfl
  · have hx' : (x == 0) = false := by simpa using hx
    have HX := Lib.hid hx
    clear hx
    go_wp2_with fail
    go_ret
    refine ⟨?_, hb2⟩
    rw [HC.out, if_pos HX.out]
    rfl

/-- by traces, then in order -/
def cmpT (a b : Sn) : Int := lexC (fun a b => cmpI a.tr b.tr) cmpS a b
theorem three_cmpT : Three cmpT := (three_cmpI.on fun s : Sn => s.tr).lex three_cmpS
theorem cmpT_or (a b : Sn) : cmpT a b = orL [cmpI a.tr b.tr, cmpS a b] := by
  simp only [cmpT, lexC, orL]
  repeat' split
  all_goals omega

theorem isOfOne_any (va vb : Value) (a b : Sn) (w : World) (ha : SV w va a) (hb : SV w vb b) :
    Calls Try.prog 56 #[va, vb] w fun e w' => e = .returned (.bool (keyB a b)) ∧ Only w w' := by
  obtain ⟨ho, d, rfl, hd⟩ := ha
  obtain ⟨ho', d', rfl, hd'⟩ := hb
  by_cases h1 : a.tr = b.tr
  · have e : keyB a b = decide (a.id = b.id) := by simp [keyB, h1]
    rw [e]
    have k1 : (a.tr == b.tr) = true := by simpa using h1
    clear e h1
    go_enter Try.func56, Try.ntmps56
    go_wp2_with fail
    go_ret
    exact ⟨rfl, ((Only.refl _).alloc _).alloc _⟩
  · have e : keyB a b = false := by simp [keyB, h1]
    rw [e]
    have k1 : (a.tr == b.tr) = false := by simpa using h1
    clear e h1
    go_enter Try.func56, Try.ntmps56
    go_wp2_with fail
    go_ret
    exact ⟨rfl, ((Only.refl _).alloc _).alloc _⟩

set_option maxRecDepth 100000 in
set_option maxHeartbeats 800000 in
theorem Less_any (va vb : Value) (a b : Sn) (w : World) (ha : SV w va a) (hb : SV w vb b) :
    Calls Try.prog 63 #[va, vb] w fun e w' => e = .returned (.bool (lessB a b)) ∧ Below w.heap.size w w' := by
  obtain ⟨ho, d, rfl, hd⟩ := ha
  obtain ⟨ho', d', rfl, hd'⟩ := hb
  have hb : Below w.heap.size w ((w.alloc (.cells #[.int .u64 a.tr, .int .u64 a.id, .int .i64 a.st, .int .i64 a.en, d] 51)).alloc (.cells #[.int .u64 b.tr, .int .u64 b.id, .int .i64 b.st, .int .i64 b.en, d'] 51)) := ((Below.refl _ _).alloc (Nat.le_refl _) _).alloc (by simp) _
  have s1 := strOf (show Bs ((w.alloc (.cells #[.int .u64 a.tr, .int .u64 a.id, .int .i64 a.st, .int .i64 a.en, d] 51)).alloc (.cells #[.int .u64 b.tr, .int .u64 b.id, .int .i64 b.st, .int .i64 b.en, d'] 51)) d a.data from (hd.alloc _).alloc _)
  have s2 := strOf (show Bs ((w.alloc (.cells #[.int .u64 a.tr, .int .u64 a.id, .int .i64 a.st, .int .i64 a.en, d] 51)).alloc (.cells #[.int .u64 b.tr, .int .u64 b.id, .int .i64 b.st, .int .i64 b.en, d'] 51)) d' b.data from (hd'.alloc _).alloc _)
  have hq : Op.bytesLess (Bstr a.data).toList (Bstr b.data).toList = decide (Lib.compareBytes a.data b.data < 0) := by rw [Bstr_toList, Bstr_toList, bytesLess_cmp]
  by_cases h1 : a.st = b.st
  · have k1 : (a.st == b.st) = true := by simpa using h1
    by_cases h2 : a.en = b.en
    · have k2 : (a.en == b.en) = true := by simpa using h2
      have e : lessB a b = decide (Lib.compareBytes a.data b.data < 0) := by simp [lessB, h1, h2]
      rw [e, ← hq]
      clear e h1 h2 hq
      go_enter Try.func63, Try.ntmps63
      go_wp2_with fail
      go_ret
      exact ⟨rfl, hb⟩
    · have k2 : (a.en == b.en) = false := by simpa using h2
      have e : lessB a b = decide (a.en < b.en) := by simp [lessB, h1, h2]
      rw [e]
      clear e h1 h2 hq
      go_enter Try.func63, Try.ntmps63
      go_wp2_with fail
      go_ret
      exact ⟨rfl, hb⟩
  · have k1 : (a.st == b.st) = false := by simpa using h1
    have e : lessB a b = decide (a.st < b.st) := by simp [lessB, h1]
    rw [e]
    clear e h1 hq
    go_enter Try.func63, Try.ntmps63
    go_wp2_with fail
    go_ret
    exact ⟨rfl, hb⟩

end Go.Proofs.Ytpanpebllapbcaa

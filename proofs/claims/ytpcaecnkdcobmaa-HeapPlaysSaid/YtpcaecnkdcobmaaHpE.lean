/-
  tankardlaw09.HeapPlays, walked over whatever keeps what a heap is to keep ('HeapK'). Conditions: what the theorem says.
-/
import Derived.Test.YtpcaecnkdcobmaaHpD
import Derived.Test.YtpcaecnkdcobmaaMix4
import Derived.Test.YtpcaecnkdcobmaaTwo
namespace Go.Proofs.Ytpcaecnkdcobmaa
open Go.RowKit
set_option maxRecDepth 100000

/-- a deed -/
structure De9 where
  what : Int
  it : It
def De9C (_ : World) (d : De9) (x : List Value) : Prop := (-9223372036854775808 ≤ d.what ∧ d.what ≤ 9223372036854775807) ∧ x = [.int .i64 d.what, .int .i64 d.it.key, .string (Bstr d.it.nm)]
def Ds9 (w : World) (v : Value) (l : List De9) : Prop := ∃ xs, Lv 3 w v xs ∧ Two (De9C w) l xs
theorem Ds9.form {w : World} {v : Value} {l : List De9} (h : Ds9 w v l) : ∃ A c, v = .slice A l.length c ∧ l.length ≤ c ∧ c ≤ 9223372036854775807 := by
  obtain ⟨xs, h1, h2⟩ := h
  obtain ⟨A, c, hv, h3, h4⟩ := h1.form
  rw [← h2.len] at hv h3
  exact ⟨A, c, hv, h3, h4⟩
theorem Ds9.cells {w : World} {A : Option Addr} {n c : Nat} {l : List De9} (h : Ds9 w (.slice A n c) l) {i : Nat} {d : De9} (hi : l[i]? = some d) :
    ∃ g o, A = some ⟨g, o, none⟩ ∧ g < w.heap.size ∧ w.cell? ⟨g, o + i * 3, none⟩ = some (.int .i64 d.what) ∧ w.cell? ⟨g, o + i * 3 + 1, none⟩ = some (.int .i64 d.it.key) ∧ w.cell? ⟨g, o + i * 3 + 2, none⟩ = some (.string (Bstr d.it.nm)) ∧ (-9223372036854775808 ≤ d.what ∧ d.what ≤ 9223372036854775807) := by
  obtain ⟨xs, h1, h2⟩ := h
  obtain ⟨x, hx, q1, rfl⟩ := h2.right hi
  obtain ⟨g, o, hA, hg, hc⟩ := h1.cells (by omega) hx
  exact ⟨g, o, hA, hg, hc 0 _ rfl, hc 1 _ rfl, hc 2 _ rfl, q1⟩
/-- a row of items of the call's own, in its one block -/
def Rw9 (base : Nat) (v : Value) (l : List It) (w : World) (G : Nat → Prop) : Prop := OwnL 2 w base 27 v (l.map itC) ∧ ∀ q, G q ↔ v.ownBlock = some q
theorem Rw9.thing (base : Nat) (v : Value) (l : List It) : Thing (Rw9 base v l) where
  keep h ha := ⟨h.1.apt ha fun q hq hn => hn ((h.2 q).2 hq), h.2⟩
  lt h q hq := h.1.lt q ((h.2 q).1 hq)

theorem ownL_none9 (w : World) (k base : Nat) (e : TypeId) (hb : base ≤ w.heap.size) : OwnL k (w.alloc (.cells #[] e)) base e (.slice (some ⟨w.heap.size, 0, none⟩) 0 0) [] :=
  ⟨World.ownsRow_made w #[] 0 hb (by simp [maxLen]) (by simp), fun x hx => by cases hx⟩

set_option maxHeartbeats 6400000 in
theorem heapPlays_any {HPi : World → (Nat → Prop) → Nat → Value → (Int → Int → Bool) → Nat → List Int → Prop} {HP : World → (Nat → Prop) → Nat → Value → (It → It → Bool) → Nat → List It → Prop} (hU : HeapI HPi) (hK : HeapIt HP) (vl : Value) (l : List De9) (w : World) (hl : Ds9 w vl l) :
    Calls Try.prog 3 #[vl] w fun e w' => e = .returned (.bool true) ∧ Below w.heap.size w w' := by
  have HU := Lib.hid hU
  have HK := Lib.hid hK
  have HL := Lib.hid hl
  obtain ⟨Al, cl, rfl, hcl1, hcl2⟩ := hl.form
  clear hl hK hU
  go_enter Try.func3, Try.ntmps3
  go_wp2_with fail
  refine (up9_any HU.out _).mono ?_
  rintro e w1 ⟨rfl, hb1⟩
  go_wp2_with fail
  refine (HK.out.new_ok w1 7 #[] itR).mono ?_
  rintro e w2 ⟨g, F, rfl, hP2, hb2, hF⟩
  have hB2 := hb1.trans (hb2.mono hb1.size)
  have HW2 : Hid (W2 (fun _ => True) w w2 (fun u F => HP u F g (.func (.func 7) #[] #[]) itR 0 []) F (Rw9 w.heap.size (.slice none 0 0) []) (fun _ => False)) :=
    Lib.hid ⟨hB2, hP2, ⟨OwnL.nil _ _ _ _, fun q => by simp [Value.ownBlock]⟩, fun q hq => Nat.le_trans hb1.size (hF q hq), fun _ hq => hq.elim, fun _ _ hq => hq, fun _ _ => trivial⟩
  clear hb1 hb2 hF hP2
  by_cases hll : 200 < l.length
  · go_wp2_with fail
    go_ret
    exact ⟨rfl, hB2⟩
  clear hB2
  go_wp2_with fail
  go_loopg [5, 6] l.length (fun gk vv iv wr => ∃ (k : Nat) (h : List It) (F G : Nat → Prop) (A : Option Addr) (c n : Nat), k + gk = l.length ∧ iv = .int .i64 (k : Int) ∧ vv = .slice A h.length c ∧ Hid (W2 (fun _ => True) w wr (fun u F => HP u F g (.func (.func 7) #[] #[]) itR n h) F (Rw9 w.heap.size vv h) G ∧ h.length ≤ k ∧ n ≤ k))
  case atStart => exact ⟨0, [], F, _, none, 0, 0, by omega, rfl, rfl, Lib.hid ⟨HW2.out, by simp⟩⟩
  case round =>
    obtain ⟨k, h, F, G, A, c, n, hk, rfl, rfl, HM⟩ := hrel
    clear HW2
    by_cases hlt : k < l.length
    · obtain ⟨gk1, hgk1⟩ : ∃ x, gk = x + 1 := ⟨gk - 1, by omega⟩
      have HGK := Lib.hid hgk1
      have HKG : Hid (k + (gk1 + 1) = l.length) := Lib.hid (by omega)
      obtain ⟨d, hkd⟩ : ∃ d, l[k]? = some d := ⟨_, List.getElem?_eq_getElem hlt⟩
      obtain ⟨q, o, rfl, hq, x0, x1, x2, hw1⟩ := HL.out.cells hkd
      have hhk : h.length ≤ 200 := by have := HM.out.2; omega
      clear hgk1 hk hkd
      go_wp2_with fail
      refine (first_any _ h _ HM.out.1.b.1.lv).mono ?_
      rintro e w3 ⟨⟨a, rfl, hFA⟩, hb3⟩
      have HW3 := Lib.hid (HM.out.1.later (HK.out.thing _ _ _ _ _) (Rw9.thing _ _ _) hb3)
      have HMk := Lib.hid HM.out.2
      have HFA := Lib.hid hFA
      have hB := HW3.out.below
      have c0 := (hB.cell (p := ⟨q, o + k * 3, none⟩) hq).trans x0
      have c1 := (hB.cell (p := ⟨q, o + k * 3 + 1, none⟩) hq).trans x1
      have c2 := (hB.cell (p := ⟨q, o + k * 3 + 2, none⟩) hq).trans x2
      have hPk := fun u => pick9_any d.what 3 u hw1.1 hw1.2 (by omega) (by omega)
      have hP0 : 0 ≤ pick9 d.what 3 := by unfold pick9; omega
      have hP7 : pick9 d.what 3 < 3 := by unfold pick9; omega
      generalize pick9 d.what 3 = pk at *
      clear hb3 hFA HM hB
      go_wp2_with fail
      refine (hPk _).mono ?_
      rintro e w4 ⟨rfl, rfl⟩
      clear hPk
      rcases (by omega : pk = 0 ∨ pk = 1 ∨ pk = 2) with rfl | rfl | rfl
      · as_aux_lemma =>
          have hC := HK.out.push (x := d.it) HW3.out.a itO (itKeep _ _) (fun _ _ => trivial) trivial (by omega) (by have := HMk.out; omega)
          rw [show itV d.it = .agg #[.int .i64 d.it.key, .string (Bstr d.it.nm)] from rfl] at hC
          go_wp2_with fail
          refine hC.mono ?_
          rintro e w5 ⟨rfl, F5, hP5, hA5, hN5⟩
          have hW5 := HW3.out.stepA (A' := fun u F => HP u F g (.func (.func 7) #[] #[]) itR (n + 1) (h ++ [d.it])) (HK.out.thing _ _ _ _ _) (Rw9.thing _ _ _) hP5 hA5 hN5
          have HW5 := Lib.hid hW5
          have hB5 := hW5.below
          have hV5 := hW5.b.1.lv
          have hS5 : ∀ u, Below w5.heap.size w5 u → u.cell? ⟨q, o + k * 3 + 1, none⟩ = some (.int .i64 d.it.key) ∧ u.cell? ⟨q, o + k * 3 + 2, none⟩ = some (.string (Bstr d.it.nm)) := fun u hu => by
            have hu' := hB5.trans (hu.mono hB5.size)
            exact ⟨(hu'.cell (p := ⟨q, o + k * 3 + 1, none⟩) hq).trans x1, (hu'.cell (p := ⟨q, o + k * 3 + 2, none⟩) hq).trans x2⟩
          have hb0 : (0 : Int) ≤ (k : Int) := by omega
          have hb1 : (k : Int) < (l.length : Int) := by omega
          have ha0 : Below w5.heap.size w5 (w5.drew.alloc (.cells #[] 27)) := (Below.refl _ _).drew.alloc (Nat.le_refl _) _
          have hz5 : (w5.drew.alloc (.cells #[] 27)).heap.size = w5.heap.size + 1 := by simp
          have hzL : (w5.drew.alloc (.cells #[.int .i64 d.it.key, .string (Bstr d.it.nm)] 27)).heap.size = w5.heap.size + 1 := by simp
          clear hC hP5 hA5 hN5 hW5 hB5 c0 c1 c2 x0 HW3
          go_wp2_with fail
          refine wp_region_mix4 (.read 1 (.read 3 (.read 4 (.read 5 (.read 6 (.read 7 (.both 0 (.both 2 (.step 8 (.step 9 (.read 10 .done))) 8 (.step 2 (.step 9 (.read 10 .done)))) 8 (.step 0 (.step 2 (.step 9 (.read 10 .done))))))))))) (fun u => u.cell? ⟨q, o + k * 3 + 1, none⟩ = some (.int .i64 d.it.key) ∧ u.cell? ⟨q, o + k * 3 + 2, none⟩ = some (.string (Bstr d.it.nm))) (by kernel_rfl) (by kernel_rfl) (by decide +kernel) rfl (hS5 _ (Below.refl _ _).drew) ?_
          repeat
            (refine mix4_read (o := ⟨_, _, _, _, _, _⟩) (v := ?_) rfl (by rfl) (fun w' hS => ?_) ?_
             rotate_left
             have hS1 := hS.1
             have hS2 := hS.2
             go_simp
             with_reducible rfl
             try simp only [Act.put, List.setIfInBounds_toArray, List.set_cons_zero, List.set_cons_succ])
          refine mix4_both ?_ ?_
          · refine mix4_step (o := ⟨_, _, _, _, _, _⟩) rfl (fun K hK => ?_)
            go_simp
            refine hK.out _ _ (hS5 _ ha0) ?_
            clear hK K
            try simp only [Act.put, List.setIfInBounds_toArray, List.set_cons_zero, List.set_cons_succ]
            refine mix4_both ?_ ?_
            · refine mix4_step (o := ⟨_, _, _, _, _, _⟩) rfl (fun K hK => ?_)
              refine step_append_elems itT rfl _ _ rfl rfl (ownL_none9 w5.drew 2 w5.heap.size 27 (Nat.le_refl _)) rfl (hV5.below ha0) (by intro y hy; obtain ⟨z, _, rfl⟩ := List.mem_map.1 hy; simp [itC, Value.oneCell']) (by simp only [maxLen, List.length_nil, List.length_map]; omega) (by simp only [List.length_nil, List.length_map]; omega) ha0.size ?_
              intro v2 w6 ho2 hg2 hv2
              have hB6 : Below w5.heap.size w5 w6 := ha0.grown hg2 ha0.size (fun z hz => by injection hz with hz; exact Nat.le_of_eq hz)
              refine hK.out _ _ (hS5 _ hB6) ?_
              clear hK K
              try simp only [Act.put, List.setIfInBounds_toArray, List.set_cons_zero, List.set_cons_succ]
              have hb6a : Below w5.heap.size w5 (w6.alloc (.cells #[.int .i64 d.it.key, .string (Bstr d.it.nm)] 27)) := hB6.alloc hB6.size _
              refine mix4_step (o := ⟨_, _, _, _, _, _⟩) rfl (fun K hK => ?_)
              go_simp
              refine hK.out _ _ (hS5 _ hb6a) ?_
              clear hK K
              try simp only [Act.put, List.setIfInBounds_toArray, List.set_cons_zero, List.set_cons_succ]
              refine mix4_step (o := ⟨_, _, _, _, _, _⟩) rfl (fun K hK => ?_)
              refine step_append_elems itT rfl _ _ rfl rfl (ho2.alloc _) rfl (Lv.lit1 w6 (itC d.it) 27) (by intro y hy; rw [List.mem_singleton] at hy; subst hy; simp [itC, Value.oneCell']) (by simp only [maxLen, List.nil_append, List.length_map, List.length_singleton]; omega) (by simp only [List.nil_append, List.length_map, List.length_singleton]; omega) hb6a.size ?_
              intro v3 w9 ho3 hg3 hv3
              have hB9 : Below w5.heap.size w5 w9 := hb6a.grown hg3 hb6a.size (fun z hz => ho2.ge z hz)
              have hv3g : True := trivial
              refine hK.out _ _ (hS5 _ hB9) ?_
              clear hK K
              try simp only [Act.put, List.setIfInBounds_toArray, List.set_cons_zero, List.set_cons_succ]
              repeat
                (refine mix4_read (o := ⟨_, _, _, _, _, _⟩) (v := ?_) rfl (by rfl) (fun w' hS => ?_) ?_
                 rotate_left
                 have hS1 := hS.1
                 have hS2 := hS.2
                 go_simp
                 with_reducible rfl
                 try simp only [Act.put, List.setIfInBounds_toArray, List.set_cons_zero, List.set_cons_succ])
              refine mix4_done ?_
              have ho3' : OwnL 2 w9 w5.heap.size 27 v3 ((h ++ [d.it]).map itC) := by
                rw [List.map_append]
                simpa using ho3
              have hge := HW5.out.below.size
              have ho3b : OwnL 2 w9 w.heap.size 27 v3 ((h ++ [d.it]).map itC) := by
                refine ⟨⟨ho3'.1.1, ?_⟩, ho3'.2⟩
                rcases ho3'.1.2 with h0 | ⟨g, cap, cur, hv, hg, hr, hrest⟩
                · exact .inl h0
                · exact .inr ⟨g, cap, cur, hv, by omega, hr, hrest⟩
              have hW9 := HW5.out.stepB (B' := Rw9 w.heap.size v3 (h ++ [d.it])) (G' := fun z => v3.ownBlock = some z) (HK.out.thing _ _ _ _ _) ⟨ho3b, fun z => Iff.rfl⟩ (Apt.of_below hB9) (fun z hz => .inr (ho3'.ge z hz))
              obtain ⟨A3, c3, hv3f, _⟩ := ho3'.lv.form
              rw [List.length_map, List.length_append, List.length_singleton] at hv3f
              subst hv3f
              have HW9 := Lib.hid hW9
              have hC := HK.out.len hW9.a (by rw [List.length_append, List.length_singleton]; omega)
              rw [List.length_append, List.length_singleton] at hC
              clear ho3 ho3' ho3b hB9 hW9 hge
              go_wp2_with fail
              refine hC.mono ?_
              rintro e w10 ⟨rfl, F10, hP10, hA10, hN10⟩
              have HW10 := Lib.hid (HW9.out.stepA (A' := fun u F => HP u F g (.func (.func 7) #[] #[]) itR (n + 1) (h ++ [d.it])) (HK.out.thing _ _ _ _ _) (Rw9.thing _ _ _) hP10 hA10 hN10)
              clear hC hP10 hA10 hN10
              go_wp2_with fail
              go_roundg gk1
              case measure => have := HGK.out; omega
              case rel => exact ⟨k + 1, h ++ [d.it], F10, _, A3, c3, n + 1, by have := HKG.out; omega, by go_num, by rw [List.length_append, List.length_singleton], Lib.hid ⟨HW10.out, by rw [List.length_append, List.length_singleton]; have := HMk.out; omega⟩⟩
            · have hbB : Below w5.heap.size w5 ((w5.drew.alloc (.cells #[] 27)).alloc (.cells #[.int .i64 d.it.key, .string (Bstr d.it.nm)] 27)) := ha0.alloc ha0.size _
              refine mix4_step (o := ⟨_, _, _, _, _, _⟩) rfl (fun K hK => ?_)
              go_simp
              refine hK.out _ _ (hS5 _ hbB) ?_
              clear hK K
              try simp only [Act.put, List.setIfInBounds_toArray, List.set_cons_zero, List.set_cons_succ]
              refine mix4_step (o := ⟨_, _, _, _, _, _⟩) rfl (fun K hK => ?_)
              refine step_append_elems itT rfl _ _ rfl rfl ((ownL_none9 w5.drew 2 w5.heap.size 27 (Nat.le_refl _)).alloc _) rfl (hV5.below hbB) (by intro y hy; obtain ⟨z, _, rfl⟩ := List.mem_map.1 hy; simp [itC, Value.oneCell']) (by simp only [maxLen, List.length_nil, List.length_map]; omega) (by simp only [List.length_nil, List.length_map]; omega) hbB.size ?_
              intro v2 w6 ho2 hg2 hv2
              replace hg2 : World.grownBy ((w5.drew.alloc (.cells #[] 27)).alloc (.cells #[.int .i64 d.it.key, .string (Bstr d.it.nm)] 27)) w6 (some w5.heap.size) := hg2
              have hB6 : Below w5.heap.size w5 w6 := hbB.grown hg2 hbB.size (fun z hz => by injection hz with hz; exact Nat.le_of_eq hz)
              refine hK.out _ _ (hS5 _ hB6) ?_
              clear hK K
              try simp only [Act.put, List.setIfInBounds_toArray, List.set_cons_zero, List.set_cons_succ]
              have hlit := (Lv.lit1 (w5.drew.alloc (.cells #[] 27)) (itC d.it) 27).grown hg2 (fun _ hz => by simp [Value.ownBlock] at hz)
              rw [hz5] at hlit
              refine mix4_step (o := ⟨_, _, _, _, _, _⟩) rfl (fun K hK => ?_)
              refine step_append_elems itT rfl _ _ rfl rfl ho2 rfl hlit (by intro y hy; rw [List.mem_singleton] at hy; subst hy; simp [itC, Value.oneCell']) (by simp only [maxLen, List.nil_append, List.length_map, List.length_singleton]; omega) (by simp only [List.nil_append, List.length_map, List.length_singleton]; omega) hB6.size ?_
              intro v3 w9 ho3 hg3 hv3
              have hB9 : Below w5.heap.size w5 w9 := hB6.grown hg3 hB6.size (fun z hz => ho2.ge z hz)
              have hv3g : True := trivial
              refine hK.out _ _ (hS5 _ hB9) ?_
              clear hK K
              try simp only [Act.put, List.setIfInBounds_toArray, List.set_cons_zero, List.set_cons_succ]
              repeat
                (refine mix4_read (o := ⟨_, _, _, _, _, _⟩) (v := ?_) rfl (by rfl) (fun w' hS => ?_) ?_
                 rotate_left
                 have hS1 := hS.1
                 have hS2 := hS.2
                 go_simp
                 with_reducible rfl
                 try simp only [Act.put, List.setIfInBounds_toArray, List.set_cons_zero, List.set_cons_succ])
              refine mix4_done ?_
              have ho3' : OwnL 2 w9 w5.heap.size 27 v3 ((h ++ [d.it]).map itC) := by
                rw [List.map_append]
                simpa using ho3
              have hge := HW5.out.below.size
              have ho3b : OwnL 2 w9 w.heap.size 27 v3 ((h ++ [d.it]).map itC) := by
                refine ⟨⟨ho3'.1.1, ?_⟩, ho3'.2⟩
                rcases ho3'.1.2 with h0 | ⟨g, cap, cur, hv, hg, hr, hrest⟩
                · exact .inl h0
                · exact .inr ⟨g, cap, cur, hv, by omega, hr, hrest⟩
              have hW9 := HW5.out.stepB (B' := Rw9 w.heap.size v3 (h ++ [d.it])) (G' := fun z => v3.ownBlock = some z) (HK.out.thing _ _ _ _ _) ⟨ho3b, fun z => Iff.rfl⟩ (Apt.of_below hB9) (fun z hz => .inr (ho3'.ge z hz))
              obtain ⟨A3, c3, hv3f, _⟩ := ho3'.lv.form
              rw [List.length_map, List.length_append, List.length_singleton] at hv3f
              subst hv3f
              have HW9 := Lib.hid hW9
              have hC := HK.out.len hW9.a (by rw [List.length_append, List.length_singleton]; omega)
              rw [List.length_append, List.length_singleton] at hC
              clear ho3 ho3' ho3b hB9 hW9 hge
              go_wp2_with fail
              refine hC.mono ?_
              rintro e w10 ⟨rfl, F10, hP10, hA10, hN10⟩
              have HW10 := Lib.hid (HW9.out.stepA (A' := fun u F => HP u F g (.func (.func 7) #[] #[]) itR (n + 1) (h ++ [d.it])) (HK.out.thing _ _ _ _ _) (Rw9.thing _ _ _) hP10 hA10 hN10)
              clear hC hP10 hA10 hN10
              go_wp2_with fail
              go_roundg gk1
              case measure => have := HGK.out; omega
              case rel => exact ⟨k + 1, h ++ [d.it], F10, _, A3, c3, n + 1, by have := HKG.out; omega, by go_num, by rw [List.length_append, List.length_singleton], Lib.hid ⟨HW10.out, by rw [List.length_append, List.length_singleton]; have := HMk.out; omega⟩⟩
          · have hc0 : Below w5.heap.size w5 (w5.drew.alloc (.cells #[.int .i64 d.it.key, .string (Bstr d.it.nm)] 27)) := (Below.refl _ _).drew.alloc (Nat.le_refl _) _
            refine mix4_step (o := ⟨_, _, _, _, _, _⟩) rfl (fun K hK => ?_)
            go_simp
            refine hK.out _ _ (hS5 _ hc0) ?_
            clear hK K
            try simp only [Act.put, List.setIfInBounds_toArray, List.set_cons_zero, List.set_cons_succ]
            have hc1 : Below w5.heap.size w5 ((w5.drew.alloc (.cells #[.int .i64 d.it.key, .string (Bstr d.it.nm)] 27)).alloc (.cells #[] 27)) := hc0.alloc hc0.size _
            refine mix4_step (o := ⟨_, _, _, _, _, _⟩) rfl (fun K hK => ?_)
            go_simp
            refine hK.out _ _ (hS5 _ hc1) ?_
            clear hK K
            try simp only [Act.put, List.setIfInBounds_toArray, List.set_cons_zero, List.set_cons_succ]
            have hown := ownL_none9 (w5.drew.alloc (.cells #[.int .i64 d.it.key, .string (Bstr d.it.nm)] 27)) 2 w5.heap.size 27 hc0.size
            rw [hzL] at hown
            refine mix4_step (o := ⟨_, _, _, _, _, _⟩) rfl (fun K hK => ?_)
            refine step_append_elems itT rfl _ _ rfl rfl hown rfl (hV5.below hc1) (by intro y hy; obtain ⟨z, _, rfl⟩ := List.mem_map.1 hy; simp [itC, Value.oneCell']) (by simp only [maxLen, List.length_nil, List.length_map]; omega) (by simp only [List.length_nil, List.length_map]; omega) hc1.size ?_
            intro v2 w6 ho2 hg2 hv2
            replace hg2 : World.grownBy ((w5.drew.alloc (.cells #[.int .i64 d.it.key, .string (Bstr d.it.nm)] 27)).alloc (.cells #[] 27)) w6 (some (w5.heap.size + 1)) := hg2
            have hB6 : Below w5.heap.size w5 w6 := hc1.grown hg2 hc1.size (fun z hz => by injection hz with hz; omega)
            refine hK.out _ _ (hS5 _ hB6) ?_
            clear hK K
            try simp only [Act.put, List.setIfInBounds_toArray, List.set_cons_zero, List.set_cons_succ]
            have hlit := ((Lv.lit1 w5.drew (itC d.it) 27).alloc (.cells #[] 27)).grown hg2 (fun _ hz => by simp [Value.ownBlock] at hz)
            refine mix4_step (o := ⟨_, _, _, _, _, _⟩) rfl (fun K hK => ?_)
            refine step_append_elems itT rfl _ _ rfl rfl ho2 rfl hlit (by intro y hy; rw [List.mem_singleton] at hy; subst hy; simp [itC, Value.oneCell']) (by simp only [maxLen, List.nil_append, List.length_map, List.length_singleton]; omega) (by simp only [List.nil_append, List.length_map, List.length_singleton]; omega) hB6.size ?_
            intro v3 w9 ho3 hg3 hv3
            have hB9 : Below w5.heap.size w5 w9 := hB6.grown hg3 hB6.size (fun z hz => ho2.ge z hz)
            have hv3g : True := trivial
            refine hK.out _ _ (hS5 _ hB9) ?_
            clear hK K
            try simp only [Act.put, List.setIfInBounds_toArray, List.set_cons_zero, List.set_cons_succ]
            repeat
              (refine mix4_read (o := ⟨_, _, _, _, _, _⟩) (v := ?_) rfl (by rfl) (fun w' hS => ?_) ?_
               rotate_left
               have hS1 := hS.1
               have hS2 := hS.2
               go_simp
               with_reducible rfl
               try simp only [Act.put, List.setIfInBounds_toArray, List.set_cons_zero, List.set_cons_succ])
            refine mix4_done ?_
            have ho3' : OwnL 2 w9 w5.heap.size 27 v3 ((h ++ [d.it]).map itC) := by
              rw [List.map_append]
              simpa using ho3
            have hge := HW5.out.below.size
            have ho3b : OwnL 2 w9 w.heap.size 27 v3 ((h ++ [d.it]).map itC) := by
              refine ⟨⟨ho3'.1.1, ?_⟩, ho3'.2⟩
              rcases ho3'.1.2 with h0 | ⟨g, cap, cur, hv, hg, hr, hrest⟩
              · exact .inl h0
              · exact .inr ⟨g, cap, cur, hv, by omega, hr, hrest⟩
            have hW9 := HW5.out.stepB (B' := Rw9 w.heap.size v3 (h ++ [d.it])) (G' := fun z => v3.ownBlock = some z) (HK.out.thing _ _ _ _ _) ⟨ho3b, fun z => Iff.rfl⟩ (Apt.of_below hB9) (fun z hz => .inr (ho3'.ge z hz))
            obtain ⟨A3, c3, hv3f, _⟩ := ho3'.lv.form
            rw [List.length_map, List.length_append, List.length_singleton] at hv3f
            subst hv3f
            have HW9 := Lib.hid hW9
            have hC := HK.out.len hW9.a (by rw [List.length_append, List.length_singleton]; omega)
            rw [List.length_append, List.length_singleton] at hC
            clear ho3 ho3' ho3b hB9 hW9 hge
            go_wp2_with fail
            refine hC.mono ?_
            rintro e w10 ⟨rfl, F10, hP10, hA10, hN10⟩
            have HW10 := Lib.hid (HW9.out.stepA (A' := fun u F => HP u F g (.func (.func 7) #[] #[]) itR (n + 1) (h ++ [d.it])) (HK.out.thing _ _ _ _ _) (Rw9.thing _ _ _) hP10 hA10 hN10)
            clear hC hP10 hA10 hN10
            go_wp2_with fail
            go_roundg gk1
            case measure => have := HGK.out; omega
            case rel => exact ⟨k + 1, h ++ [d.it], F10, _, A3, c3, n + 1, by have := HKG.out; omega, by go_num, by rw [List.length_append, List.length_singleton], Lib.hid ⟨HW10.out, by rw [List.length_append, List.length_singleton]; have := HMk.out; omega⟩⟩
      · as_aux_lemma =>
          have hB3 := HW3.out.below
          have hsh := HW3.out.b.1.lv
          rcases HFA.out with ⟨rfl, rfl⟩ | ⟨i, x, rfl, hFi⟩
          · have hC := HK.out.pop_none HW3.out.a
            clear c0 c1 c2
            go_wp2_with fail
            refine hC.mono ?_
            rintro e w5 ⟨rfl, F5, hP5, hA5, hN5⟩
            have hW5 := HW3.out.stepA (A' := fun u F => HP u F g (.func (.func 7) #[] #[]) itR n []) (HK.out.thing _ _ _ _ _) (Rw9.thing _ _ _) hP5 hA5 hN5
            have hW6 := hW5.later (HK.out.thing _ _ _ _ _) (Rw9.thing _ _ _) ((Below.refl w5.heap.size w5).alloc (Nat.le_refl _) (.cells #[.int .i64 0, .string ⟨#[]⟩] 27))
            have HW6 := Lib.hid hW6
            clear hC hP5 hA5 hN5 hW5 hW6
            go_wp2_with fail
            go_roundg gk1
            case measure => have := HGK.out; omega
            case rel => exact ⟨k + 1, [], F5, G, A, c, n, by have := HKG.out; omega, by go_num, rfl, Lib.hid ⟨HW6.out, by have := HMk.out; simp; omega⟩⟩
          · have hC := HK.out.pop HW3.out.a itO (itKeep _ _) (fun _ _ => trivial) hFi (by omega)
            rw [show itV x = .agg #[.int .i64 x.key, .string (Bstr x.nm)] from rfl] at hC
            have hi := (List.getElem?_eq_some_iff.1 hFi.at_).1
            have HAt := Lib.hid hFi.at_
            clear c0 c1 c2 hFi
            have a0 : (0 : Int) ≤ (i : Int) := by omega
            have a1 : (i : Int) < (h.length : Int) := by omega
            go_wp2_with fail
            refine hC.mono ?_
            rintro e w5 ⟨rfl, F5, hP5, hA5, hN5⟩
            have hW5 := HW3.out.stepA (A' := fun u F => HP u F g (.func (.func 7) #[] #[]) itR n (h.eraseIdx i)) (HK.out.thing _ _ _ _ _) (Rw9.thing _ _ _) hP5 hA5 hN5
            have hW6 := hW5.later (HK.out.thing _ _ _ _ _) (Rw9.thing _ _ _) ((Below.refl w5.heap.size w5).alloc (Nat.le_refl _) (.cells #[.int .i64 x.key, .string (Bstr x.nm)] 27))
            have hIt : ItL _ _ h := hW6.b.1.lv
            obtain ⟨y, p, rfl, hy, d0, d1⟩ := hIt.cell HAt.out
            have HW6 := Lib.hid hW6
            clear hC hP5 hA5 hN5 hW5 hW6 hIt hsh hB3
            go_wp2_with fail
            go_quiet (fail)
            have hW7 := HW6.out.later (HK.out.thing _ _ _ _ _) (Rw9.thing _ _ _) (below_drewN (Below.refl _ _) nq)
            have HW7 := Lib.hid hW7
            have hlv := hW7.b.1.lv
            obtain ⟨hcc, _⟩ : h.length ≤ c ∧ True := by
              obtain ⟨A', c', e', h1', _⟩ := hlv.form
              injection e' with _ _ e'
              rw [List.length_map] at h1'
              exact ⟨by omega, trivial⟩
            have hV := hlv.upto i (by omega)
            have hU := hlv.from_ (i + 1) (by omega)
            have hsV : ∀ u, (Instr.slice 29 (.slice (some ⟨y, p, none⟩) h.length c) none (some (.int .i64 (i : Int))) none).run Try.prog u = .ok _ u := fun u => run_slice_upto itT rfl i (by omega) hcc u
            have hsU : ∀ u, (Instr.slice 29 (.slice (some ⟨y, p, none⟩) h.length c) (some (.int .i64 ((i : Int) + 1))) none none).run Try.prog u = .ok _ u := fun u => run_slice_from itT rfl (i + 1) (by omega) hcc u
            have hwi : IntKind.i64.wrap ((i : Int) + 1) = (i : Int) + 1 := IntWalk.i64_in _ (by omega)
            generalize hVe : Value.slice (some ⟨y, p, none⟩) i c = V at hV hsV
            generalize hUe : Value.slice (if c = i + 1 then (some (⟨y, p, none⟩ : Addr)) else (some ⟨y, p, none⟩ : Option Addr).map (·.add ((i + 1) * 2))) (h.length - (i + 1)) (c - (i + 1)) = U at hU hsU
            generalize hw7 : (w5.alloc (.cells #[.int .i64 x.key, .string (Bstr x.nm)] 27)).drewN nq = w7 at *
            clear hVe hUe d0 d1 HW6
            go_wp2_with fail
            have ha0 : Below w7.heap.size w7 (w7.drew.alloc (.cells #[] 27)) := (Below.refl _ _).drew.alloc (Nat.le_refl _) _
            refine wp_region_mix [(1, false), (2, false), (3, false), (5, false), (6, false), (7, false), (8, false), (0, true), (4, true), (9, true), (10, false)] (fun _ => True) (by kernel_rfl) (by kernel_rfl) (by decide +kernel) rfl trivial ?_
            repeat
              (refine mix_read (o := ⟨_, _, _, _, _, _⟩) (v := ?_) rfl (by rfl) (fun w' hS => ?_) ?_
               rotate_left
               go_simp
               with_reducible rfl
               try simp only [Act.put, List.setIfInBounds_toArray, List.set_cons_zero, List.set_cons_succ])
            refine mix_step (o := ⟨_, _, _, _, _, _⟩) rfl (fun K hK => ?_)
            go_simp
            refine hK.out _ _ trivial ?_
            clear hK K
            try simp only [Act.put, List.setIfInBounds_toArray, List.set_cons_zero, List.set_cons_succ]
            refine mix_step (o := ⟨_, _, _, _, _, _⟩) rfl (fun K hK => ?_)
            refine step_append_elems itT rfl _ _ rfl rfl (ownL_none9 w7.drew 2 w7.heap.size 27 (Nat.le_refl _)) rfl (hV.below ha0) (by intro y hy; obtain ⟨z, _, rfl⟩ := List.mem_map.1 (List.mem_of_mem_take hy); simp [itC, Value.oneCell']) (by simp only [maxLen, List.length_nil, List.length_take, List.length_map]; omega) (by simp only [List.length_nil, List.length_take, List.length_map]; omega) ha0.size ?_
            intro v2 w8 ho2 hg2 hv2
            have hB8 : Below w7.heap.size w7 w8 := ha0.grown hg2 ha0.size (fun z hz => by injection hz with hz; exact Nat.le_of_eq hz)
            refine hK.out _ _ trivial ?_
            clear hK K
            try simp only [Act.put, List.setIfInBounds_toArray, List.set_cons_zero, List.set_cons_succ]
            refine mix_step (o := ⟨_, _, _, _, _, _⟩) rfl (fun K hK => ?_)
            refine step_append_elems itT rfl _ _ rfl rfl ho2 rfl (hU.below hB8) (by intro y hy; obtain ⟨z, _, rfl⟩ := List.mem_map.1 (List.mem_of_mem_drop hy); simp [itC, Value.oneCell']) (by simp only [maxLen, List.nil_append, List.length_take, List.length_drop, List.length_map]; omega) (by simp only [List.nil_append, List.length_take, List.length_drop, List.length_map]; omega) hB8.size ?_
            intro v3 w9 ho3 hg3 hv3
            have hB9 : Below w7.heap.size w7 w9 := hB8.grown hg3 hB8.size (fun z hz => ho2.ge z hz)
            refine hK.out _ _ trivial ?_
            clear hK K
            try simp only [Act.put, List.setIfInBounds_toArray, List.set_cons_zero, List.set_cons_succ]
            repeat
              (refine mix_read (o := ⟨_, _, _, _, _, _⟩) (v := ?_) rfl (by rfl) (fun w' hS => ?_) ?_
               rotate_left
               go_simp
               with_reducible rfl
               try simp only [Act.put, List.setIfInBounds_toArray, List.set_cons_zero, List.set_cons_succ])
            refine mix_done ?_
            have hlen : (h.eraseIdx i).length + 1 = h.length := by
              rw [List.length_eraseIdx_of_lt hi]
              omega
            have ho3' : OwnL 2 w9 w7.heap.size 27 v3 ((h.eraseIdx i).map itC) := by
              rw [List.eraseIdx_eq_take_drop_succ, List.map_append, List.map_take, List.map_drop]
              simpa using ho3
            have hge := HW7.out.below.size
            have ho3b : OwnL 2 w9 w.heap.size 27 v3 ((h.eraseIdx i).map itC) := by
              refine ⟨⟨ho3'.1.1, ?_⟩, ho3'.2⟩
              rcases ho3'.1.2 with h0 | ⟨g, cap, cur, hv, hg, hr, hrest⟩
              · exact .inl h0
              · exact .inr ⟨g, cap, cur, hv, by omega, hr, hrest⟩
            have hW9 := HW7.out.stepB (B' := Rw9 w.heap.size v3 (h.eraseIdx i)) (G' := fun z => v3.ownBlock = some z) (HK.out.thing _ _ _ _ _) ⟨ho3b, fun z => Iff.rfl⟩ (Apt.of_below hB9) (fun z hz => .inr (ho3'.ge z hz))
            obtain ⟨A3, c3, hv3f, _⟩ := ho3'.lv.form
            rw [List.length_map] at hv3f
            subst hv3f
            have HW9 := Lib.hid hW9
            have hC := HK.out.len hW9.a (by omega)
            have HLn := Lib.hid hlen
            generalize h.eraseIdx i = h' at *
            clear ho3 ho3' ho3b hB9 hW9 hge ho2 hB8 hg2 hv2 hg3 hv3 ha0 hV hU hsV hsU hwi hlen
            go_wp2_with fail
            refine hC.mono ?_
            rintro e w10 ⟨rfl, F10, hP10, hA10, hN10⟩
            have HW10 := Lib.hid (HW9.out.stepA (A' := fun u F => HP u F g (.func (.func 7) #[] #[]) itR n h') (HK.out.thing _ _ _ _ _) (Rw9.thing _ _ _) hP10 hA10 hN10)
            clear hC hP10 hA10 hN10
            go_wp2_with fail
            go_roundg gk1
            case measure => have := HGK.out; omega
            case rel => exact ⟨k + 1, h', F10, _, A3, c3, n, by have := HKG.out; omega, by go_num, rfl, Lib.hid ⟨HW10.out, by have := HMk.out; have := HLn.out; omega⟩⟩
      · as_aux_lemma =>
          have hB3 := HW3.out.below
          have hsh := HW3.out.b.1.lv
          rcases HFA.out with ⟨rfl, rfl⟩ | ⟨i, x, rfl, hFi⟩
          · have hC := HK.out.peek_none HW3.out.a
            clear c0 c1 c2
            go_wp2_with fail
            refine hC.mono ?_
            rintro e w5 ⟨rfl, F5, hP5, hA5, hN5⟩
            have hW5 := HW3.out.stepA (A' := fun u F => HP u F g (.func (.func 7) #[] #[]) itR n []) (HK.out.thing _ _ _ _ _) (Rw9.thing _ _ _) hP5 hA5 hN5
            have hW6 := hW5.later (HK.out.thing _ _ _ _ _) (Rw9.thing _ _ _) ((Below.refl w5.heap.size w5).alloc (Nat.le_refl _) (.cells #[.int .i64 0, .string ⟨#[]⟩] 27))
            have hCl := HK.out.len hW6.a (by simp)
            have HW6 := Lib.hid hW6
            clear hC hP5 hA5 hN5 hW5 hW6
            go_wp2_with fail
            refine hCl.mono ?_
            rintro e w7 ⟨rfl, F7, hP7', hA7, hN7⟩
            have HW7 := Lib.hid (HW6.out.stepA (A' := fun u F => HP u F g (.func (.func 7) #[] #[]) itR n []) (HK.out.thing _ _ _ _ _) (Rw9.thing _ _ _) hP7' hA7 hN7)
            clear hCl hP7' hA7 hN7
            go_wp2_with fail
            go_roundg gk1
            case measure => have := HGK.out; omega
            case rel => exact ⟨k + 1, [], F7, G, A, c, n, by have := HKG.out; omega, by go_num, rfl, Lib.hid ⟨HW7.out, by have := HMk.out; simp; omega⟩⟩
          · have hC := HK.out.peek HW3.out.a itO (itKeep _ _) (fun _ _ => trivial) hFi (by omega)
            rw [show itV x = .agg #[.int .i64 x.key, .string (Bstr x.nm)] from rfl] at hC
            have hi := (List.getElem?_eq_some_iff.1 hFi.at_).1
            have HAt := Lib.hid hFi.at_
            clear c0 c1 c2 hFi
            have a0 : (0 : Int) ≤ (i : Int) := by omega
            have a1 : (i : Int) < (h.length : Int) := by omega
            go_wp2_with fail
            refine hC.mono ?_
            rintro e w5 ⟨rfl, F5, hP5, hA5, hN5⟩
            have hW5 := HW3.out.stepA (A' := fun u F => HP u F g (.func (.func 7) #[] #[]) itR n h) (HK.out.thing _ _ _ _ _) (Rw9.thing _ _ _) hP5 hA5 hN5
            have hW6 := hW5.later (HK.out.thing _ _ _ _ _) (Rw9.thing _ _ _) ((Below.refl w5.heap.size w5).alloc (Nat.le_refl _) (.cells #[.int .i64 x.key, .string (Bstr x.nm)] 27))
            have hIt : ItL _ _ h := hW6.b.1.lv
            obtain ⟨y, p, rfl, hy, d0, d1⟩ := hIt.cell HAt.out
            have HW6 := Lib.hid hW6
            have hCl := fun n : Nat => HK.out.len (hW6.later (HK.out.thing _ _ _ _ _) (Rw9.thing _ _ _) (below_drewN (Below.refl _ _) n)).a (by omega)
            clear hC hP5 hA5 hN5 hW5 hW6 hIt hsh hB3
            go_wp2_with fail
            go_quiet (fail)
            go_wp2_with fail
            refine (hCl nq).mono ?_
            rintro e w7 ⟨rfl, F7, hP7', hA7, hN7⟩
            have HW7 := Lib.hid ((HW6.out.later (HK.out.thing _ _ _ _ _) (Rw9.thing _ _ _) (below_drewN (Below.refl _ _) nq)).stepA (A' := fun u F => HP u F g (.func (.func 7) #[] #[]) itR n h) (HK.out.thing _ _ _ _ _) (Rw9.thing _ _ _) hP7' hA7 hN7)
            clear hCl hP7' hA7 hN7
            go_wp2_with fail
            go_roundg gk1
            case measure => have := HGK.out; omega
            case rel => exact ⟨k + 1, h, F7, G, _, c, n, by have := HKG.out; omega, by go_num, rfl, Lib.hid ⟨HW7.out, by have := HMk.out; omega⟩⟩
    · as_aux_lemma =>
        go_wp2_with fail
        go_ret
        exact ⟨rfl, HM.out.1.below⟩
end Go.Proofs.Ytpcaecnkdcobmaa

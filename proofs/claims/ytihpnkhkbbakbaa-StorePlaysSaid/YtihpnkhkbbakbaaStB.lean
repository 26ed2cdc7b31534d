/-
  CONTRACTS of the document's store: Get, List, Delete, Alter, Put. Conditions: what each says.
-/
import Derived.Test.YtihpnkhkbbakbaaStA
import Derived.Test.YtihpnkhkbbakbaaMix3
namespace Go.Proofs.Ytihpnkhkbbakbaa
open Go.RowKit
set_option maxRecDepth 100000

theorem atI_ge (n : List UInt8) : ∀ l : List Ob, atI n l = -1 ∨ ∃ (i : Nat) (o : Ob), atI n l = i ∧ l[i]? = some o ∧ o.nm = n
  | [] => .inl rfl
  | o :: l => by
    rw [atI]
    split
    · rename_i h
      exact .inr ⟨0, o, rfl, rfl, h⟩
    · rcases atI_ge n l with h | ⟨i, x, h, hx, hn⟩
      · rw [h]
        exact .inl rfl
      · rw [h, if_neg (by omega)]
        exact .inr ⟨i + 1, x, by omega, by simpa using hx, hn⟩

/-- Get: its bytes, and an error's number -/
def sGet (m : Sm) (n : List UInt8) : List UInt8 × Int :=
  if callB m = false then ([], 8) else match m.l[(atI n m.l).toNat]? with
    | some o => if atI n m.l < 0 then ([], 4) else (o.b, 0)
    | none => ([], 4)
theorem sGet_fail {m : Sm} {n : List UInt8} (h : callB m = false) : sGet m n = ([], 8) := by rw [sGet, if_pos h]
theorem sGet_none {m : Sm} {n : List UInt8} (h : callB m = true) (hn : atI n m.l = -1) : sGet m n = ([], 4) := by
  rw [sGet, if_neg (by rw [h]; simp), hn]
  cases m.l[(-1 : Int).toNat]? <;> simp
theorem sGet_some {m : Sm} {n : List UInt8} {i : Nat} {o : Ob} (h : callB m = true) (hn : atI n m.l = i) (ho : m.l[i]? = some o) : sGet m n = (o.b, 0) := by
  rw [sGet, if_neg (by rw [h]; simp), hn, Int.toNat_natCast, ho]
  simp

theorem Bstr_nil : Bstr [] = ⟨#[]⟩ := rfl

set_option maxHeartbeats 800000 in
theorem DGet_any (base g : Nat) (v : Value) (m : Sm) (n : List UInt8) (w : World) (h : DS w base g v m) (hm : m.ok) (hc : m.calls < 1000000000) :
    Calls Try.prog 11 #[.pointer (some ⟨g, 0, none⟩), .string (Bstr n)] w fun e w' => e = .returned (.tuple #[.string (Bstr (sGet m n).1), .int .i64 (sGet m n).2]) ∧ DS w' base g v (callS m) ∧ w.grownBy w' (some g) := by
  go_enter Try.func11, Try.ntmps11
  go_wp2_with fail
  refine (Call_any base g v m _ h hm hc).mono ?_
  rintro e w1 ⟨rfl, h1, hg1⟩
  have H1 := Lib.hid h1
  cases hcb : callB m with
  | false =>
    have HG := Lib.hid (sGet_fail (n := n) hcb)
    clear hcb h1
    go_wp2_with fail
    go_ret2
    exact ⟨by rw [HG.out]; rfl, H1.out, hg1⟩
  | true =>
    have hA := At_any base g v (callS m) n w1 h1
    have hl : (callS m).l = m.l := rfl
    rw [hl] at hA
    rcases atI_ge n m.l with hn | ⟨i, o, hn, ho, _⟩
    · have HG := Lib.hid (sGet_none hcb hn)
      rw [hn] at hA
      clear hcb h1 hn
      go_wp2_with fail
      refine hA.mono ?_
      rintro e w2 ⟨rfl, rfl⟩
      go_wp2_with fail
      go_ret2
      exact ⟨by rw [HG.out]; rfl, H1.out, hg1⟩
    · have HG := Lib.hid (sGet_some hcb hn ho)
      rw [hn] at hA
      obtain ⟨A, c, rfl, hc1, hc2⟩ := h1.form
      obtain ⟨q, p, rfl, hq, c0, c1⟩ := h1.cells (i := i) (o := o) ho
      have k3 := h1.blk.cell 3
      simp at k3
      rw [hl] at hc1 k3
      have hil : i < m.l.length := (List.getElem?_eq_some_iff.1 ho).1
      clear hcb h1 hn ho
      go_wp2_with fail
      refine hA.mono ?_
      rintro e w2 ⟨rfl, rfl⟩
      go_wp2_with fail
      go_ret2
      exact ⟨by rw [HG.out]; rfl, H1.out, hg1⟩

theorem strT1 : ElemT Try.prog 44 9 1 16 := ⟨Try.underlying44, by omega, by
  refine ⟨_, _, rfl, rfl, rfl, rfl, ?_⟩
  rfl⟩

/-- List: names, and an error's number -/
def sNames (l : List Ob) (p : List UInt8) : List (List UInt8) := (l.filter fun o => begB o.nm p).map fun o => o.nm
def sList (m : Sm) (p : List UInt8) : List (List UInt8) × Int := if callB m = false then ([], 8) else (sNames m.l p, 0)
def stC (s : List UInt8) : List Value := [.string (Bstr s)]
theorem sNames_snoc (l : List Ob) (o : Ob) (p : List UInt8) : sNames (l ++ [o]) p = sNames l p ++ if begB o.nm p = true then [o.nm] else [] := by
  cases h : begB o.nm p <;> simp [sNames, List.filter_append, h]
theorem sNames_len (l : List Ob) (p : List UInt8) : (sNames l p).length ≤ l.length := by
  rw [sNames, List.length_map]
  exact List.length_filter_le _ _

set_option maxHeartbeats 1600000 in
theorem DList_any (base g : Nat) (v : Value) (m : Sm) (p : List UInt8) (w : World) (h : DS w base g v m) (hm : m.ok) (hc : m.calls < 1000000000) (hp : p.length ≤ 1000000) :
    Calls Try.prog 13 #[.pointer (some ⟨g, 0, none⟩), .string (Bstr p)] w fun e w' => ∃ x, e = .returned (.tuple #[x, .int .i64 (sList m p).2]) ∧ StL w' x (sList m p).1 ∧ DS w' base g v (callS m) ∧ w.grownBy w' (some g) := by
  have hml := hm.len
  go_enter Try.func13, Try.ntmps13
  go_wp2_with fail
  refine (Call_any base g v m _ h hm hc).mono ?_
  rintro e w1 ⟨rfl, h1, hg1⟩
  have H1 := Lib.hid h1
  cases hcb : callB m with
  | false =>
    have HG : Hid (sList m p = ([], 8)) := Lib.hid (by rw [sList, if_pos hcb])
    clear hcb h1
    go_wp2_with fail
    go_ret2
    rw [HG.out]
    exact ⟨_, rfl, Lv.nil 1 _, H1.out, hg1⟩
  | true =>
    have HG : Hid (sList m p = (sNames m.l p, 0)) := Lib.hid (by rw [sList, if_neg (by rw [hcb]; simp)])
    obtain ⟨A, c, rfl, hc1, hc2⟩ := h1.form
    have hl : (callS m).l = m.l := rfl
    rw [hl] at hc1 H1
    have HBl := Lib.hid h1.blk
    clear hcb h1 hl
    go_wp2_with fail
    go_loopw [7, 8] (fun ov iv wr => ∃ k : Nat, k ≤ m.l.length ∧ iv = .int .i64 (k : Int) ∧ OwnL 1 wr w1.heap.size 9 ov ((sNames (m.l.take k) p).map stC) ∧ Below w1.heap.size w1 wr) (fun _ iv _ => m.l.length - (intOf iv).toNat)
    case atStart => exact ⟨0, Nat.zero_le _, rfl, OwnL.nil _ _ _ _, Below.refl _ _⟩
    case round =>
      obtain ⟨k, hk, rfl, hO, hB⟩ := hrel
      have k3 := (HBl.out.below hB HBl.out.lt).cell 3
      simp at k3
      by_cases hlt : k < m.l.length
      · obtain ⟨o, hko⟩ : ∃ o, m.l[k]? = some o := ⟨_, List.getElem?_eq_getElem hlt⟩
        obtain ⟨q, s, rfl, hq, c0, c1⟩ := H1.out.cells hko
        replace c0 := (hB.cell (p := ⟨q, s + k * 2, none⟩) hq).trans c0
        replace c1 := (hB.cell (p := ⟨q, s + k * 2 + 1, none⟩) hq).trans c1
        have hqr := Nat.lt_of_lt_of_le hq hB.size
        have HT := Lib.hid (take_snoc_st hko)
        have hol : (sNames (m.l.take k) p).length ≤ k := by
          have := sNames_len (m.l.take k) p
          rw [List.length_take] at this
          omega
        have HO := Lib.hid hO
        have HOL := Lib.hid hol
        clear hko hO hol
        cases hbg : begB o.nm p with
        | false =>
          have HB2 := Lib.hid hbg
          have hBe := Begins_any o.nm p wr hp
          rw [hbg] at hBe
          clear hbg
          go_wp2_with fail
          refine hBe.mono ?_
          rintro e w2 ⟨rfl, rfl⟩
          go_wp2_with fail
          refine ⟨⟨k + 1, by omega, by go_num, ?_, hB⟩, by simp [intOf]; omega⟩
          rw [HT.out, sNames_snoc, HB2.out]
          simpa using HO.out
        | true =>
          have HB2 := Lib.hid hbg
          have hBe := Begins_any o.nm p wr hp
          rw [hbg] at hBe
          have ha : Below wr.heap.size wr (wr.alloc (.cells #[.string (Bstr o.nm)] 9)) := (Below.refl _ _).alloc (Nat.le_refl _) _
          have HOa := Lib.hid (HO.out.below ha)
          have HBa := Lib.hid (hB.trans (ha.mono hB.size))
          have HLV := Lib.hid (Lv.lit1 wr [.string (Bstr o.nm)] 9)
          clear hbg ha
          go_wp2_with fail
          refine hBe.mono ?_
          rintro e w2 ⟨rfl, rfl⟩
          go_wp2_with (at_builtin; refine wpList_append_elems _ strT1 rfl _ _ rfl w1.heap.size _ _ rfl HOa.out _ _ rfl HLV.out (by simp [Value.oneCell']) (by have := HOL.out; simp only [maxLen, List.length_map, List.length_singleton]; omega) (by have := HOL.out; simp only [List.length_map, List.length_singleton]; omega) HBa.out.size ?_)
          intro v3 w3 ho3 hg3 _
          have HO3 : Hid (OwnL 1 w3 w1.heap.size 9 v3 ((sNames (m.l.take (k + 1)) p).map stC)) := Lib.hid (by
            rw [HT.out, sNames_snoc, HB2.out]
            simpa [stC] using ho3)
          have hB3 := HBa.out.grown hg3 HBa.out.size HOa.out.ge
          clear ho3 hg3
          go_wp2_with fail
          exact ⟨⟨k + 1, by omega, by go_num, HO3.out, hB3⟩, by simp [intOf]; omega⟩
      · have hkn : k = m.l.length := by omega
        subst hkn
        rw [List.take_length] at hO
        have HO := Lib.hid hO.lv
        clear hO
        go_wp2_with fail
        go_ret2
        rw [HG.out]
        exact ⟨_, rfl, HO.out, H1.out.below hB, grown_trans hg1 (grown_of_below hB _)⟩

theorem objE : Try.prog.elem 31 = 57 := by kernel_rfl
theorem obC_two (l : List Ob) : ∀ x ∈ l.map obC, x.length = 2 := by
  intro x hx
  obtain ⟨o, _, rfl⟩ := List.mem_map.1 hx
  rfl
theorem obC_one (l : List Ob) : ∀ x ∈ l.map obC, ∀ u ∈ x, u.oneCell' = true := by
  intro x hx u hu
  obtain ⟨o, _, rfl⟩ := List.mem_map.1 hx
  simp [obC] at hu
  rcases hu with rfl | rfl <;> rfl
theorem OwnL.none (w : World) (k base : Nat) (e : TypeId) (hb : base ≤ w.heap.size) : OwnL k (w.alloc (.cells #[] e)) base e (.slice (some ⟨w.heap.size, 0, none⟩) 0 0) [] :=
  ⟨World.ownsRow_made w #[] 0 hb (by simp [maxLen]) (by simp), fun x hx => by cases hx⟩

/-- Delete: the store behind it, and an error's number -/
def sDel (m : Sm) (n : List UInt8) : Sm × Int :=
  if callB m = false then (callS m, 8) else if atI n m.l < 0 then (callS m, 4) else ({ callS m with l := m.l.take (atI n m.l).toNat ++ m.l.drop ((atI n m.l).toNat + 1) }, 0)
theorem sDel_fail {m : Sm} {n : List UInt8} (h : callB m = false) : sDel m n = (callS m, 8) := by rw [sDel, if_pos h]
theorem sDel_none {m : Sm} {n : List UInt8} (h : callB m = true) (hn : atI n m.l = -1) : sDel m n = (callS m, 4) := by
  rw [sDel, if_neg (by rw [h]; simp), hn]
  rfl
theorem sDel_some {m : Sm} {n : List UInt8} {i : Nat} (h : callB m = true) (hn : atI n m.l = i) : sDel m n = ({ callS m with l := m.l.take i ++ m.l.drop (i + 1) }, 0) := by
  rw [sDel, if_neg (by rw [h]; simp), hn, if_neg (by omega), Int.toNat_natCast]

set_option maxHeartbeats 3200000 in
theorem DDelete_any (base g : Nat) (v : Value) (m : Sm) (n : List UInt8) (w : World) (h : DS w base g v m) (hm : m.ok) (hc : m.calls < 1000000000) :
    Calls Try.prog 16 #[.pointer (some ⟨g, 0, none⟩), .string (Bstr n)] w fun e w' => e = .returned (.int .i64 (sDel m n).2) ∧ ∃ v', DS w' base g v' (sDel m n).1 ∧ w.grownBy w' (some g) ∧ ∀ q, v'.ownBlock = some q → v.ownBlock = some q ∨ w.heap.size ≤ q := by
  have hml := hm.len
  go_enter Try.func16, Try.ntmps16
  go_wp2_with fail
  refine (Call_any base g v m _ h hm hc).mono ?_
  rintro e w1 ⟨rfl, h1, hg1⟩
  have H1 := Lib.hid h1
  cases hcb : callB m with
  | false =>
    have HG := Lib.hid (sDel_fail (n := n) hcb)
    clear hcb h1
    go_wp2_with fail
    go_ret
    rw [HG.out]
    exact ⟨rfl, v, H1.out, hg1, fun q h => .inl h⟩
  | true =>
    have hA := At_any base g v (callS m) n w1 h1
    have hl : (callS m).l = m.l := rfl
    rw [hl] at hA
    rcases atI_ge n m.l with hn | ⟨i, o, hn, ho, _⟩
    · have HG := Lib.hid (sDel_none hcb hn)
      rw [hn] at hA
      clear hcb h1 hn
      go_wp2_with fail
      refine hA.mono ?_
      rintro e w2 ⟨rfl, rfl⟩
      go_wp2_with fail
      go_ret
      rw [HG.out]
      exact ⟨rfl, v, H1.out, hg1, fun q h => .inl h⟩
    · have HG := Lib.hid (sDel_some hcb hn)
      rw [hn] at hA
      obtain ⟨A, c, rfl, hc1, hc2⟩ := h1.form
      obtain ⟨q, p, rfl, hq, c0, c1⟩ := h1.cells (i := i) (o := o) ho
      have k3 := h1.blk.cell 3
      have f3 := h1.blk.frozen 3
      simp at k3
      rw [hl] at hc1 k3 H1
      have hil : i < m.l.length := (List.getElem?_eq_some_iff.1 ho).1
      have hlv : Lv 2 w1 (.slice (some ⟨q, p, none⟩) m.l.length c) (m.l.map obC) := H1.out.row.lv
      have hgl := H1.out.blk.lt
      have hbg := H1.out.ge
      have hV := hlv.upto i (by omega)
      have hU := hlv.from_ (i + 1) (by omega)
      have hsV := run_slice_upto (P := Try.prog) (A := some ⟨q, p, none⟩) objT objE i (by omega : i ≤ m.l.length) hc1
      have hsU := run_slice_from (P := Try.prog) (A := some ⟨q, p, none⟩) objT objE (i + 1) (by omega : i + 1 ≤ m.l.length) hc1
      generalize hVe : (Value.slice (some ⟨q, p, none⟩) i c) = V at hV hsV
      generalize hUe : (Value.slice (if c = i + 1 then (some (⟨q, p, none⟩ : Addr)) else (some ⟨q, p, none⟩ : Option Addr).map (·.add ((i + 1) * 2))) (m.l.length - (i + 1)) (c - (i + 1))) = U at hU hsU
      have hsU' : ∀ u : World, (Instr.slice 31 (.slice (some ⟨q, p, none⟩) m.l.length c) (some (.int .i64 ((i : Int) + 1))) none none).run Try.prog u = .ok U u := fun u => by
        have := hsU u
        simpa using this
      have hwi : IntKind.i64.wrap ((i : Int) + 1) = (i : Int) + 1 := IntWalk.i64_in _ (by omega)
      have ha : Below w1.heap.size w1 (w1.drew.alloc (.cells #[] 57)) := (Below.refl _ _).drew.alloc (Nat.le_refl _) _
      clear hcb h1 hn c0 c1 hsU hVe hUe hl hlv ho
      go_wp2_with fail
      refine hA.mono ?_
      rintro e w2' ⟨rfl, rfl⟩
      go_wp2_with fail
      clear hA
      refine wp_region_mix3 19 [(0, 0), (2, 0), (3, 0), (4, 0), (5, 0), (6, 0), (7, 0), (9, 0), (10, 0), (11, 0), (12, 0), (13, 0), (14, 0), (15, 0), (1, 1), (8, 1), (16, 1), (17, 0), (18, 0), (19, 2)] (fun u => u.cell? ⟨g, 3, none⟩ = some (.slice (some ⟨q, p, none⟩) m.l.length c)) (by kernel_rfl) (by kernel_rfl) (by decide +kernel) rfl k3 ?_
      repeat
        (refine mix3_read (o := ⟨_, _, _, _, _, _⟩) (v := ?_) rfl (by rfl) (fun w' hS => ?_) ?_
         rotate_left
         go_simp
         with_reducible rfl
         try simp only [Act.put, List.setIfInBounds_toArray, List.set_cons_zero, List.set_cons_succ])
      refine mix3_step (o := ⟨_, _, _, _, _, _⟩) rfl (fun K hK => ?_)
      go_simp
      have kk : ∀ u, Below w1.heap.size w1 u → u.cell? ⟨g, 3, none⟩ = some (.slice (some ⟨q, p, none⟩) m.l.length c) := fun u hu => (hu.cell (p := ⟨g, 3, none⟩) hgl).trans k3
      refine hK.out _ _ (kk _ ha) ?_
      clear hK K
      try simp only [Act.put, List.setIfInBounds_toArray, List.set_cons_zero, List.set_cons_succ]
      refine mix3_step (o := ⟨_, _, _, _, _, _⟩) rfl (fun K hK => ?_)
      refine step_append_elems objT rfl _ _ rfl rfl (OwnL.none w1.drew 2 base 57 (by show base ≤ w1.heap.size; omega)) rfl (hV.below ha)
        (by intro y hy; exact obC_one m.l y (List.mem_of_mem_take hy)) (by simp only [maxLen, List.length_nil, List.length_take, List.length_map]; omega) (by simp only [List.length_nil, List.length_take, List.length_map]; omega) (Nat.le_trans (Nat.le_trans hbg (Nat.le_of_lt hgl)) ha.size) ?_
      intro v2 w2 ho2 hg2 hv2
      have hB2 : Below w1.heap.size w1 w2 := ha.grown hg2 ha.size (fun k hk => by injection hk with hk; exact Nat.le_of_eq hk)
      have hv2g : ∀ k, v2.ownBlock = some k → w1.heap.size ≤ k := fun k hk => by
        rcases hv2 with e | e
        · rw [e] at hk
          injection hk with hk
          exact Nat.le_of_eq hk
        · rw [e] at hk
          injection hk with hk
          rw [← hk]
          exact ha.size
      refine hK.out _ _ (kk _ hB2) ?_
      clear hK K
      try simp only [Act.put, List.setIfInBounds_toArray, List.set_cons_zero, List.set_cons_succ]
      refine mix3_step (o := ⟨_, _, _, _, _, _⟩) rfl (fun K hK => ?_)
      refine step_append_elems objT rfl _ _ rfl rfl ho2 rfl (hU.below hB2)
        (by intro y hy; exact obC_one m.l y (List.mem_of_mem_drop hy)) (by simp only [maxLen, List.nil_append, List.length_take, List.length_drop, List.length_map]; omega) (by simp only [List.nil_append, List.length_take, List.length_drop, List.length_map]; omega) (by have := hB2.size; omega) ?_
      intro v3 w3 ho3 hg3 hv3
      replace hv3 : v3.ownBlock = v2.ownBlock ∨ v3.ownBlock = some w2.heap.size := hv3
      have hv3g : ∀ k, v3.ownBlock = some k → w1.heap.size ≤ k := fun k hk => by
        rcases hv3 with e | e
        · exact hv2g k (by rw [← e]; exact hk)
        · rw [e] at hk
          injection hk with hk
          have := hB2.size
          omega
      have hB3 : Below w1.heap.size w1 w3 := hB2.grown hg3 hB2.size hv2g
      refine hK.out _ _ (kk _ hB3) ?_
      clear hK K
      try simp only [Act.put, List.setIfInBounds_toArray, List.set_cons_zero, List.set_cons_succ]
      repeat
        (refine mix3_read (o := ⟨_, _, _, _, _, _⟩) (v := ?_) rfl (by rfl) (fun w' hS => ?_) ?_
         rotate_left
         go_simp
         with_reducible rfl
         try simp only [Act.put, List.setIfInBounds_toArray, List.set_cons_zero, List.set_cons_succ])
      have hblk3 := H1.out.blk.below hB3 hgl
      have k33 := kk _ hB3
      have f33 := hblk3.frozen 3
      obtain ⟨A3, N3, c3, hv3f⟩ : ∃ a n c, v3 = .slice a n c := by
        obtain ⟨a, c, h, _⟩ := ho3.lv.form
        exact ⟨_, _, _, h⟩
      subst hv3f
      have HO3 := Lib.hid ho3
      clear ho3 hv3
      refine mix3_store (o := ⟨_, _, _, _, _, _⟩) rfl (fun K hK => ?_)
      go_simp
      refine hK.out _ _ ?_
      clear hK K
      refine mix3_done ?_
      clear hsV hsU' hV hU ha hwi
      go_wp2_with fail
      go_ret
      rw [HG.out]
      have hgs := grown_set w3 g 3 (.slice A3 N3 c3)
      have hne : (Value.slice A3 N3 c3).ownBlock ≠ some g := fun e => by have := hv3g g e; omega
      have hg13 : w1.grownBy w3 (some g) := grown_of_below hB3 _
      refine ⟨rfl, _, ⟨by simpa using hblk3.set_ 3 (.slice A3 N3 c3), ?_, hne, hbg⟩, grown_trans hg1 (grown_trans hg13 hgs), fun k hk => .inr (Nat.le_trans hg1.size (hv3g k hk))⟩
      have := HO3.out.kept hgs (.inr hne)
      simpa [List.map_take, List.map_drop] using this

/-- l[:k] and l[k:], objects -/
theorem ob_cut {w : World} {A : Option Addr} {n c : Nat} {xs : List (List Value)} (h : Lv 2 w (.slice A n c) xs) (k : Nat) (hk : k ≤ n) (hc : n ≤ c) :
    ∃ V U, (∀ u, (Instr.slice 31 (.slice A n c) none (some (.int .i64 (k : Int))) none).run Try.prog u = .ok V u) ∧ (∀ u, (Instr.slice 31 (.slice A n c) (some (.int .i64 (k : Int))) none none).run Try.prog u = .ok U u) ∧ Lv 2 w V (xs.take k) ∧ Lv 2 w U (xs.drop k) :=
  ⟨_, _, run_slice_upto objT objE k hk hc, run_slice_from objT objE k hk hc, h.upto k hk, h.from_ k hk⟩

/-- is a name ahead of another one? -/
def ltB (a b : List UInt8) : Bool := Op.bytesLess a b
/-- how many objects stand ahead of a name -/
def insP (n : List UInt8) : List Ob → Nat
  | [] => 0
  | o :: l => if ltB o.nm n = true then insP n l + 1 else 0
theorem insP_at {n : List UInt8} : ∀ {l : List Ob} {k : Nat}, k ≤ l.length → (∀ o ∈ l.take k, ltB o.nm n = true) → (∀ o, l[k]? = some o → ltB o.nm n = false) → insP n l = k
  | [], k, hk, _, _ => by
    have : k = 0 := by simpa using hk
    subst this
    rfl
  | o :: l, 0, _, _, h => by
    have := h o (by simp)
    rw [insP, if_neg (by rw [this]; simp)]
  | o :: l, k + 1, hk, h1, h2 => by
    have ih := insP_at (n := n) (l := l) (k := k) (by simpa using hk) (fun x hx => h1 x (by simp [hx])) (fun x hx => h2 x (by simpa using hx))
    rw [insP, if_pos (h1 o (by simp)), ih]
/-- how many bytes all other objects have -/
def restU (m : Sm) (n : List UInt8) : Int := (usedL m.l : Int) - match m.l[(atI n m.l).toNat]? with
  | some o => if atI n m.l < 0 then 0 else (o.b.length : Int)
  | none => 0
theorem restU_none {m : Sm} {n : List UInt8} (h : atI n m.l = -1) : restU m n = usedL m.l := by
  rw [restU, h]
  cases m.l[(-1 : Int).toNat]? <;> simp
theorem restU_some {m : Sm} {n : List UInt8} {i : Nat} {o : Ob} (h : atI n m.l = i) (ho : m.l[i]? = some o) : restU m n = (usedL m.l : Int) - o.b.length := by
  rw [restU, h, Int.toNat_natCast, ho]
  simp only
  rw [if_neg (by omega)]
theorem usedL_at : ∀ {l : List Ob} {i : Nat} {o : Ob}, l[i]? = some o → o.b.length ≤ usedL l
  | [], i, o, h => by simp at h
  | x :: l, 0, o, h => by
    simp at h
    subst h
    simp [usedL]
  | x :: l, i + 1, o, h => by
    have ih := usedL_at (l := l) (i := i) (o := o) (by simpa using h)
    simp [usedL] at ih ⊢
    omega
/-- Put: the store behind it, and an error's number -/
def sPut (m : Sm) (n b : List UInt8) : Sm × Int :=
  if callB m = false then (callS m, 8) else if nameB n = false then (callS m, 1) else
  if restU m n + b.length > m.room then (callS m, 6) else
  if atI n m.l < 0 then ({ callS m with l := m.l.take (insP n m.l) ++ (⟨n, b⟩ :: m.l.drop (insP n m.l)) }, 0) else ({ callS m with l := m.l.set (atI n m.l).toNat ⟨n, b⟩ }, 0)

set_option maxHeartbeats 6400000 in
theorem DPut_any (base g : Nat) (v : Value) (m : Sm) (n b : List UInt8) (w : World) (h : DS w base g v m) (hm : m.ok) (hc : m.calls < 1000000000) (hn : n.length ≤ 1000000) (hbl : b.length ≤ 1000000) :
    Calls Try.prog 9 #[.pointer (some ⟨g, 0, none⟩), .string (Bstr n), .string (Bstr b)] w fun e w' => e = .returned (.int .i64 (sPut m n b).2) ∧ ∃ v', DS w' base g v' (sPut m n b).1 ∧ Apt (fun q => q = g ∨ v.ownBlock = some q) w w' ∧ ∀ q, v'.ownBlock = some q → v.ownBlock = some q ∨ w.heap.size ≤ q := by
  have hml := hm.len
  have hmu := hm.used
  have hmr0 := hm.room0
  have hmr1 := hm.room1
  have hzb : (Bstr b).size = b.length := Bstr_size _
  go_enter Try.func9, Try.ntmps9
  go_wp2_with fail
  refine (Call_any base g v m _ h hm hc).mono ?_
  rintro e w1 ⟨rfl, h1, hg1⟩
  have H1 := Lib.hid h1
  have HA1 : Hid (Apt (fun q => q = g ∨ v.ownBlock = some q) w w1) := Lib.hid (Apt.of_grown hg1 fun q h => by injection h with h; exact .inl h.symm)
  cases hcb : callB m with
  | false =>
    have HG : Hid (sPut m n b = (callS m, 8)) := Lib.hid (by rw [sPut, if_pos hcb])
    clear hcb h1
    go_wp2_with fail
    go_ret
    rw [HG.out]
    exact ⟨rfl, v, H1.out, HA1.out, fun q h => .inl h⟩
  | true =>
    have hcb' : ¬ callB m = false := by rw [hcb]; simp
    clear hcb
    go_wp2_with fail
    refine (Named_any n _ hn).mono ?_
    rintro e w2 ⟨rfl, rfl⟩
    cases hnb : nameB n with
    | false =>
      have HG : Hid (sPut m n b = (callS m, 1)) := Lib.hid (by rw [sPut, if_neg hcb', if_pos hnb])
      clear hnb h1 hcb'
      go_wp2_with fail
      go_ret
      rw [HG.out]
      exact ⟨rfl, v, H1.out, HA1.out, fun q h => .inl h⟩
    | true =>
      have hnb' : ¬ nameB n = false := by rw [hnb]; simp
      clear hnb
      have hl : (callS m).l = m.l := rfl
      have hr : (callS m).room = m.room := rfl
      have hA := At_any base g v (callS m) n w1 h1
      have hU := Used_any base g v (callS m) w1 h1 (by rw [hl]; exact hmu)
      rw [hl] at hA hU
      have k0 := h1.blk.cell 0
      have k3 := h1.blk.cell 3
      simp [hr] at k0 k3
      have hul : usedL m.l ≤ 1048576 := hmu
      obtain ⟨ul, hule⟩ : ∃ ul, ul = usedL m.l := ⟨_, rfl⟩
      rw [← hule] at hU hul
      have HUL := Lib.hid hule
      clear hule hmu
      rcases atI_ge n m.l with hai | ⟨i, o, hai, ho, hon⟩
      · rw [hai] at hA
        have hru := restU_none hai
        rw [← HUL.out] at hru
        by_cases hfull : (ul : Int) + b.length > m.room
        · have HG : Hid (sPut m n b = (callS m, 6)) := Lib.hid (by rw [sPut, if_neg hcb', if_neg hnb', if_pos (by rw [hru]; exact hfull)])
          clear h1 hcb' hnb' hru hai
          go_wp2_with fail
          refine hA.mono ?_
          rintro e w2 ⟨rfl, rfl⟩
          go_wp2_with fail
          refine hU.mono ?_
          rintro e w2 ⟨rfl, rfl⟩
          go_wp2_with fail
          go_ret
          rw [HG.out]
          exact ⟨rfl, v, H1.out, HA1.out, fun q h => .inl h⟩
        · have HG : Hid (sPut m n b = ({ callS m with l := m.l.take (insP n m.l) ++ (⟨n, b⟩ :: m.l.drop (insP n m.l)) }, 0)) := Lib.hid (by rw [sPut, if_neg hcb', if_neg hnb', if_neg (by rw [hru]; exact hfull), if_pos (by rw [hai]; omega)])
          obtain ⟨A, c, rfl, hc1, hc2⟩ := h1.form
          rw [hl] at hc1 k3
          have hlv : Lv 2 w1 (.slice A m.l.length c) (m.l.map obC) := h1.row.lv
          rw [hl] at H1
          have hgl := H1.out.blk.lt
          have hbg := H1.out.ge
          clear h1 hcb' hnb' hru hai
          go_wp2_with fail
          refine hA.mono ?_
          rintro e w2 ⟨rfl, rfl⟩
          go_wp2_with fail
          refine hU.mono ?_
          rintro e w2 ⟨rfl, rfl⟩
          clear hA hU
          go_wp2_with fail
          go_loop [9] (fun iv => ∃ k : Nat, k ≤ m.l.length ∧ iv = .int .i64 (k : Int) ∧ Hid (∀ o ∈ m.l.take k, ltB o.nm n = true)) (fun iv => m.l.length - (intOf iv).toNat)
          case atStart => exact ⟨0, Nat.zero_le _, rfl, Lib.hid (by simp)⟩
          case round =>
            obtain ⟨k, hk, rfl, HL⟩ := hrel
            by_cases hlt : k < m.l.length
            · obtain ⟨o, hko⟩ : ∃ o, m.l[k]? = some o := ⟨_, List.getElem?_eq_getElem hlt⟩
              obtain ⟨q, p, rfl, hq, c0, c1⟩ := H1.out.cells hko
              have HKO := Lib.hid hko
              clear hko
              cases hls : ltB o.nm n with
              | true =>
                have hq2 : Op.bytesLess (Bstr o.nm).toList (Bstr n).toList = true := by rw [Bstr_toList, Bstr_toList]; exact hls
                have HLS := Lib.hid hls
                clear hls
                go_wp2_with fail
                refine ⟨⟨k + 1, by omega, by go_num, Lib.hid fun x hx => ?_⟩, by simp [intOf]; omega⟩
                rw [take_snoc_st HKO.out] at hx
                rcases List.mem_append.1 hx with h | h
                · exact HL.out x h
                · simp at h
                  subst h
                  exact HLS.out
              | false =>
                have hq2 : Op.bytesLess (Bstr o.nm).toList (Bstr n).toList = false := by rw [Bstr_toList, Bstr_toList]; exact hls
                have HIN : Hid (insP n m.l = k) := Lib.hid (insP_at hk HL.out fun x hx => by
                  rw [HKO.out] at hx
                  injection hx with hx
                  subst hx
                  exact hls)
                clear hls
                obtain ⟨V, U, hsV, hsU, hV, hU⟩ := ob_cut hlv k hk hc1
                have hVo : ∀ y ∈ (m.l.map obC).take k, ∀ u ∈ y, u.oneCell' = true := fun y hy => obC_one m.l y (List.mem_of_mem_take hy)
                have hUo : ∀ y ∈ (m.l.map obC).drop k, ∀ u ∈ y, u.oneCell' = true := fun y hy => obC_one m.l y (List.mem_of_mem_drop hy)
                have hlt1 : ((m.l.map obC).take k).length ≤ 1000000 := by rw [List.length_take, List.length_map]; omega
                have hld1 : ((m.l.map obC).drop k).length ≤ 1000000 := by rw [List.length_drop, List.length_map]; omega
                generalize hxt : (m.l.map obC).take k = xt at *
                generalize hxd : (m.l.map obC).drop k = xd at *
                have HXT := Lib.hid hxt
                have HXD := Lib.hid hxd
                have ha : Below w1.heap.size w1 (w1.alloc (.cells #[] 57)) := (Below.refl _ _).alloc (Nat.le_refl _) _
                have hbw : base ≤ w1.heap.size := by omega
                have HVa := Lib.hid (hV.below ha)
                have HOa := Lib.hid (OwnL.none w1 2 base 57 hbw)
                clear hxt hxd hV
                go_wp2_with (at_builtin; refine wpList_append_elems _ objT rfl _ _ rfl base _ _ rfl HOa.out V _ rfl HVa.out hVo (by simp only [maxLen, List.length_nil]; omega) (by simp only [List.length_nil]; omega) (Nat.le_trans hbw ha.size) ?_)
                intro v2 w2 ho2 hg2 hv2
                have hB2 : Below w1.heap.size w1 w2 := ha.grown hg2 ha.size (fun z hz => by have : w1.heap.size = z := Option.some.inj hz; omega)
                replace hv2 : v2.ownBlock = some w1.heap.size ∨ v2.ownBlock = some (w1.alloc (.cells #[] 57)).heap.size := by simpa [Value.ownBlock] using hv2
                have hv2g : ∀ z, v2.ownBlock = some z → w1.heap.size ≤ z := fun z hz => by
                  have := ha.size
                  rcases hv2 with e | e <;> (rw [e] at hz; injection hz with hz; omega)
                have ha2 : Below w2.heap.size w2 (w2.alloc (.cells #[.string (Bstr n), .string (Bstr b)] 57)) := (Below.refl _ _).alloc (Nat.le_refl _) _
                have HO2 := Lib.hid (show OwnL 2 (w2.alloc (.cells #[.string (Bstr n), .string (Bstr b)] 57)) base 57 v2 xt from by simpa using ho2.below ha2)
                have HLit := Lib.hid (Lv.lit1 w2 [.string (Bstr n), .string (Bstr b)] 57)
                have hB2a := hB2.trans (ha2.mono hB2.size)
                have hbw2 : base ≤ (w2.alloc (.cells #[.string (Bstr n), .string (Bstr b)] 57)).heap.size := Nat.le_trans hbw hB2a.size
                clear ho2 hg2 hv2 HVa HOa ha hVo hsV
                go_wp2_with (at_builtin; refine wpList_append_elems _ objT rfl _ _ rfl base _ _ rfl HO2.out _ _ rfl HLit.out (by simp [Value.oneCell']) (by simp only [maxLen, List.length_singleton]; omega) (by simp only [List.length_singleton]; omega) hbw2 ?_)
                intro v3 w3 ho3 hg3 hv3
                have hB3 : Below w1.heap.size w1 w3 := hB2a.grown hg3 hB2a.size hv2g
                have hv3g : ∀ z, v3.ownBlock = some z → w1.heap.size ≤ z := fun z hz => by
                  rcases hv3 with e | e
                  · exact hv2g z (by rw [← e]; exact hz)
                  · rw [e] at hz
                    injection hz with hz
                    have := hB2a.size
                    simp at hz this
                    omega
                have k33 := (hB3.cell (p := ⟨g, 3, none⟩) hgl).trans k3
                have HO3 := Lib.hid ho3
                have HU3 := Lib.hid (hU.below hB3)
                have hbw3 : base ≤ w3.heap.size := Nat.le_trans hbw hB3.size
                clear ho3 hg3 hv3 HO2 HLit hB2a hbw2 hU ha2 hv2g hB2
                go_wp2_with (at_builtin; refine wpList_append_elems _ objT rfl _ _ rfl base _ _ rfl HO3.out U _ rfl HU3.out hUo (by simp only [maxLen, List.length_append, List.length_singleton]; omega) (by simp only [List.length_append, List.length_singleton]; omega) hbw3 ?_)
                intro v4 w4 ho4 hg4 hv4
                have hB4 : Below w1.heap.size w1 w4 := hB3.grown hg4 hB3.size hv3g
                have hv4g : ∀ z, v4.ownBlock = some z → w1.heap.size ≤ z := fun z hz => by
                  rcases hv4 with e | e
                  · exact hv3g z (by rw [← e]; exact hz)
                  · rw [e] at hz
                    injection hz with hz
                    have := hB3.size
                    omega
                have hblk4 := H1.out.blk.below hB4 hgl
                have k34 := (hB4.cell (p := ⟨g, 3, none⟩) hgl).trans k3
                have f34 := hblk4.frozen 3
                obtain ⟨A4, N4, c4, hv4f⟩ : ∃ a n c, v4 = .slice a n c := by
                  obtain ⟨a, c, h, _⟩ := ho4.lv.form
                  exact ⟨_, _, _, h⟩
                subst hv4f
                have HO4 := Lib.hid ho4
                clear ho4 hv4 hg4 HO3 HU3 hUo hsU k33
                go_wp2_with fail
                go_ret
                rw [HG.out]
                have hgs := grown_set w4 g 3 (.slice A4 N4 c4)
                have hne : (Value.slice A4 N4 c4).ownBlock ≠ some g := fun e => by have := hv4g g e; omega
                refine ⟨rfl, _, ⟨by simpa using hblk4.set_ 3 (.slice A4 N4 c4), ?_, hne, hbg⟩, HA1.out.trans ((Apt.of_below hB4).trans (Apt.of_grown hgs fun z hz => .inl (by injection hz with hz; exact hz.symm))), fun z hz => .inr (Nat.le_trans HA1.out.size (hv4g z hz))⟩
                have := HO4.out.kept hgs (.inr hne)
                rw [HIN.out]
                rw [← HXT.out, ← HXD.out] at this
                simpa [List.map_take, List.map_drop, obC] using this
            · have HIN : Hid (insP n m.l = k) := Lib.hid (insP_at hk HL.out fun x hx => by
                have := (List.getElem?_eq_some_iff.1 hx).1
                omega)
              obtain ⟨V, U, hsV, hsU, hV, hU⟩ := ob_cut hlv k hk hc1
              have hVo : ∀ y ∈ (m.l.map obC).take k, ∀ u ∈ y, u.oneCell' = true := fun y hy => obC_one m.l y (List.mem_of_mem_take hy)
              have hUo : ∀ y ∈ (m.l.map obC).drop k, ∀ u ∈ y, u.oneCell' = true := fun y hy => obC_one m.l y (List.mem_of_mem_drop hy)
              have hlt1 : ((m.l.map obC).take k).length ≤ 1000000 := by rw [List.length_take, List.length_map]; omega
              have hld1 : ((m.l.map obC).drop k).length ≤ 1000000 := by rw [List.length_drop, List.length_map]; omega
              generalize hxt : (m.l.map obC).take k = xt at *
              generalize hxd : (m.l.map obC).drop k = xd at *
              have HXT := Lib.hid hxt
              have HXD := Lib.hid hxd
              have ha : Below w1.heap.size w1 (w1.alloc (.cells #[] 57)) := (Below.refl _ _).alloc (Nat.le_refl _) _
              have hbw : base ≤ w1.heap.size := by omega
              have HVa := Lib.hid (hV.below ha)
              have HOa := Lib.hid (OwnL.none w1 2 base 57 hbw)
              clear hxt hxd hV
              go_wp2_with (at_builtin; refine wpList_append_elems _ objT rfl _ _ rfl base _ _ rfl HOa.out V _ rfl HVa.out hVo (by simp only [maxLen, List.length_nil]; omega) (by simp only [List.length_nil]; omega) (Nat.le_trans hbw ha.size) ?_)
              intro v2 w2 ho2 hg2 hv2
              have hB2 : Below w1.heap.size w1 w2 := ha.grown hg2 ha.size (fun z hz => by have : w1.heap.size = z := Option.some.inj hz; omega)
              replace hv2 : v2.ownBlock = some w1.heap.size ∨ v2.ownBlock = some (w1.alloc (.cells #[] 57)).heap.size := by simpa [Value.ownBlock] using hv2
              have hv2g : ∀ z, v2.ownBlock = some z → w1.heap.size ≤ z := fun z hz => by
                have := ha.size
                rcases hv2 with e | e <;> (rw [e] at hz; injection hz with hz; omega)
              have ha2 : Below w2.heap.size w2 (w2.alloc (.cells #[.string (Bstr n), .string (Bstr b)] 57)) := (Below.refl _ _).alloc (Nat.le_refl _) _
              have HO2 := Lib.hid (show OwnL 2 (w2.alloc (.cells #[.string (Bstr n), .string (Bstr b)] 57)) base 57 v2 xt from by simpa using ho2.below ha2)
              have HLit := Lib.hid (Lv.lit1 w2 [.string (Bstr n), .string (Bstr b)] 57)
              have hB2a := hB2.trans (ha2.mono hB2.size)
              have hbw2 : base ≤ (w2.alloc (.cells #[.string (Bstr n), .string (Bstr b)] 57)).heap.size := Nat.le_trans hbw hB2a.size
              clear ho2 hg2 hv2 HVa HOa ha hVo hsV
              go_wp2_with (at_builtin; refine wpList_append_elems _ objT rfl _ _ rfl base _ _ rfl HO2.out _ _ rfl HLit.out (by simp [Value.oneCell']) (by simp only [maxLen, List.length_singleton]; omega) (by simp only [List.length_singleton]; omega) hbw2 ?_)
              intro v3 w3 ho3 hg3 hv3
              have hB3 : Below w1.heap.size w1 w3 := hB2a.grown hg3 hB2a.size hv2g
              have hv3g : ∀ z, v3.ownBlock = some z → w1.heap.size ≤ z := fun z hz => by
                rcases hv3 with e | e
                · exact hv2g z (by rw [← e]; exact hz)
                · rw [e] at hz
                  injection hz with hz
                  have := hB2a.size
                  simp at hz this
                  omega
              have k33 := (hB3.cell (p := ⟨g, 3, none⟩) hgl).trans k3
              have HO3 := Lib.hid ho3
              have HU3 := Lib.hid (hU.below hB3)
              have hbw3 : base ≤ w3.heap.size := Nat.le_trans hbw hB3.size
              clear ho3 hg3 hv3 HO2 HLit hB2a hbw2 hU ha2 hv2g hB2
              go_wp2_with (at_builtin; refine wpList_append_elems _ objT rfl _ _ rfl base _ _ rfl HO3.out U _ rfl HU3.out hUo (by simp only [maxLen, List.length_append, List.length_singleton]; omega) (by simp only [List.length_append, List.length_singleton]; omega) hbw3 ?_)
              intro v4 w4 ho4 hg4 hv4
              have hB4 : Below w1.heap.size w1 w4 := hB3.grown hg4 hB3.size hv3g
              have hv4g : ∀ z, v4.ownBlock = some z → w1.heap.size ≤ z := fun z hz => by
                rcases hv4 with e | e
                · exact hv3g z (by rw [← e]; exact hz)
                · rw [e] at hz
                  injection hz with hz
                  have := hB3.size
                  omega
              have hblk4 := H1.out.blk.below hB4 hgl
              have k34 := (hB4.cell (p := ⟨g, 3, none⟩) hgl).trans k3
              have f34 := hblk4.frozen 3
              obtain ⟨A4, N4, c4, hv4f⟩ : ∃ a n c, v4 = .slice a n c := by
                obtain ⟨a, c, h, _⟩ := ho4.lv.form
                exact ⟨_, _, _, h⟩
              subst hv4f
              have HO4 := Lib.hid ho4
              clear ho4 hv4 hg4 HO3 HU3 hUo hsU k33
              go_wp2_with fail
              go_ret
              rw [HG.out]
              have hgs := grown_set w4 g 3 (.slice A4 N4 c4)
              have hne : (Value.slice A4 N4 c4).ownBlock ≠ some g := fun e => by have := hv4g g e; omega
              refine ⟨rfl, _, ⟨by simpa using hblk4.set_ 3 (.slice A4 N4 c4), ?_, hne, hbg⟩, HA1.out.trans ((Apt.of_below hB4).trans (Apt.of_grown hgs fun z hz => .inl (by injection hz with hz; exact hz.symm))), fun z hz => .inr (Nat.le_trans HA1.out.size (hv4g z hz))⟩
              have := HO4.out.kept hgs (.inr hne)
              rw [HIN.out]
              rw [← HXT.out, ← HXD.out] at this
              simpa [List.map_take, List.map_drop, obC] using this
      · rw [hai] at hA
        have hru := restU_some hai ho
        rw [← HUL.out] at hru
        have hob := usedL_at ho
        rw [← HUL.out] at hob
        rcases h1.row.at_ with ⟨_, h0⟩ | ⟨q, c, rfl, hc1, hc2, hq1, hq2, hqf⟩
        · have h0' := congrArg List.length h0
          rw [List.length_map, hl] at h0'
          have := (List.getElem?_eq_some_iff.1 ho).1
          simp at h0'
          rw [h0'] at this
          simp at this
        rw [List.length_map, hl] at *
        obtain ⟨q', p', he, _, c0, c1⟩ := h1.cells (i := i) (o := o) ho
        simp only [Option.some.injEq, Addr.mk.injEq, and_true] at he
        obtain ⟨rfl, rfl⟩ := he
        simp only [Nat.zero_add] at c0 c1
        have hil : i < m.l.length := (List.getElem?_eq_some_iff.1 ho).1
        have hf1 := hqf (i * 2 + 1)
        have hzo : (Bstr o.b).size = o.b.length := Bstr_size _
        have hne := h1.ne
        by_cases hfull : (ul : Int) - o.b.length + b.length > m.room
        · have HG : Hid (sPut m n b = (callS m, 6)) := Lib.hid (by rw [sPut, if_neg hcb', if_neg hnb', if_pos (by rw [hru]; exact hfull)])
          clear h1 hcb' hnb' hru hai hqf
          go_wp2_with fail
          refine hA.mono ?_
          rintro e w2 ⟨rfl, rfl⟩
          go_wp2_with fail
          refine hU.mono ?_
          rintro e w2 ⟨rfl, rfl⟩
          go_wp2_with fail
          go_ret
          rw [HG.out]
          exact ⟨rfl, _, H1.out, HA1.out, fun q h => .inl h⟩
        · have HG : Hid (sPut m n b = ({ callS m with l := m.l.set i ⟨n, b⟩ }, 0)) := Lib.hid (by rw [sPut, if_neg hcb', if_neg hnb', if_neg (by rw [hru]; exact hfull), if_neg (by rw [hai]; omega), hai, Int.toNat_natCast])
          have HO := Lib.hid ho
          have HON := Lib.hid hon
          clear h1 hcb' hnb' hru hai hqf ho hon
          go_wp2_with fail
          refine hA.mono ?_
          rintro e w2 ⟨rfl, rfl⟩
          go_wp2_with fail
          refine hU.mono ?_
          rintro e w2 ⟨rfl, rfl⟩
          go_wp2_with fail
          go_ret
          rw [HG.out]
          obtain ⟨hrow, hgr⟩ := H1.out.row.put_ (i := i) (j := 1) (x := obC o) (by rw [List.getElem?_map]; show Option.map obC m.l[i]? = _; rw [HO.out]; rfl) (by omega) (.string (Bstr b))
          refine ⟨rfl, _, ⟨H1.out.blk.grown hgr (fun e => hne e.symm), ?_, H1.out.ne, H1.out.ge⟩, HA1.out.trans (Apt.of_grown hgr fun z hz => .inr hz), fun q h => .inl h⟩
          have e : (m.l.map obC).set i ((obC o).set 1 (.string (Bstr b))) = (m.l.set i ⟨n, b⟩).map obC := by
            rw [List.map_set]
            simp [obC, HON.out]
          rw [← e]
          exact hrow

end Go.Proofs.Ytihpnkhkbbakbaa

/-
  CONTRACTS of trace.leastOnes, trace.Gather, slices.Grow and slices.Concat at spans, trace.Merge, trace.Of. Conditions: at most 100000000 spans, Data of at most 1000000 bytes.
-/
import Derived.Test.YtalljllloffieaaTrD
import Derived.Lib.AppendZerosOnto
import Derived.Lib.AppendZeros
namespace Go.Proofs.Ytalljllloffieaa
open Go.RowKit

/-- those that count, side by side -/
def Lst (l r : List Sn) : Prop := ∃ d : List Sn, d.Perm l ∧ (d.Pairwise fun a b => cmpW a b ≤ 0) ∧ r = dedL d
theorem Lst.len {l r : List Sn} (h : Lst l r) : r.length ≤ l.length := by
  obtain ⟨d, h1, _, rfl⟩ := h
  have := (dedL_sub d).length_le
  have := h1.length_eq
  omega
theorem Lst.sub {l r : List Sn} (h : Lst l r) : ∀ s ∈ r, s ∈ l := by
  obtain ⟨d, h1, _, rfl⟩ := h
  exact fun s hs => h1.mem_iff.1 ((dedL_sub d).subset hs)
theorem Gat.sub {l r : List Sn} (h : Gat l r) : ∀ s ∈ r, s ∈ l := fun s hs => ((h.mem s).1 hs).1
theorem Gat.nodup {l r : List Sn} (h : Gat l r) : r.Nodup := h.up.imp fun {a b} hab e => by
  subst e
  have := three_cmpS.rf a
  omega
theorem nodup_le : ∀ {r l : List Sn}, r.Nodup → (∀ s ∈ r, s ∈ l) → r.length ≤ l.length
  | [], l, _, _ => by simp
  | a :: r, l, hn, hs => by
    rw [List.nodup_cons] at hn
    have ha := hs a (List.mem_cons_self ..)
    obtain ⟨p, q, rfl⟩ := List.append_of_mem ha
    have ih := nodup_le (r := r) (l := p ++ q) hn.2 fun s h => by
      have := hs s (List.mem_cons_of_mem _ h)
      rcases List.mem_append.1 this with h1 | h1
      · exact List.mem_append_left _ h1
      · rcases List.mem_cons.1 h1 with h2 | h2
        · subst h2; exact absurd h hn.1
        · exact List.mem_append_right _ h2
    simp only [List.length_append, List.length_cons] at ih ⊢
    omega
theorem Gat.len {l r : List Sn} (h : Gat l r) : r.length ≤ l.length := nodup_le h.nodup h.sub

theorem below_own {base : Nat} {w w' w'' : World} (hB : Below base w w') {v : Value} (hg : w'.grownBy w'' v.ownBlock) (hb : base ≤ w'.heap.size) (hv : ∀ k, v.ownBlock = some k → base ≤ k) : Below base w w'' := hB.grown hg hb hv

theorem enters_whole (args : Array Value) (w : World) : (callFunc 36 args).run Try.prog w = .ok (.enter 36 args) w := enters_of Try.func36 (by kernel_rfl) rfl args w
theorem enters_compare (args : Array Value) (w : World) : (callFunc 27 args).run Try.prog w = .ok (.enter 27 args) w := enters_of Try.func27 (by kernel_rfl) rfl args w
theorem enters_inTraces (args : Array Value) (w : World) : (callFunc 32 args).run Try.prog w = .ok (.enter 32 args) w := enters_of Try.func32 (by kernel_rfl) rfl args w

set_option maxHeartbeats 800000 in
theorem least_any (v : Value) (l : List Sn) (w : World) (h : Ss w v l) (hl : l.length ≤ 100000000) :
    Calls Try.prog 25 #[v] w fun e w' => ∃ v' r, e = .returned v' ∧ Own5 w' w.heap.size v' r ∧ Lst l r ∧ Below w.heap.size w w' := by
  go_enter Try.func25, Try.ntmps25
  go_wp2_with fail
  refine (sclone_any v l _ (by omega) h).mono ?_
  rintro e w1 ⟨v1, rfl, ho1, hb1⟩
  go_wp2_with fail
  refine (sort_any 36 cmpW three_cmpW enters_whole whole_only v1 l _ _ ho1 (by omega)).mono ?_
  rintro e w2 ⟨rfl, d, hp, hs, ho2, hg2⟩
  have hb2 := hb1.grown hg2 hb1.size (fun k hk => (ho1.lt k hk).1)
  go_wp2_with fail
  refine (compact_any v1 d _ _ ho2 (by have := hp.length_eq; omega)).mono ?_
  rintro e w3 ⟨v3, rfl, ho3, hg3, hv3⟩
  have hb3 := hb2.grown hg3 hb2.size (fun k hk => (ho2.lt k hk).1)
  go_wp2_with fail
  go_ret
  exact ⟨_, _, rfl, ho3, ⟨d, hp, hs, rfl⟩, hb3⟩

set_option maxHeartbeats 800000 in
theorem gather_any (v : Value) (l : List Sn) (w : World) (h : Ss w v l) (hl : l.length ≤ 100000000) (hd : ∀ s ∈ l, s.data.length ≤ 1000000) :
    Calls Try.prog 10 #[v] w fun e w' => ∃ v' r, e = .returned v' ∧ Own5 w' w.heap.size v' r ∧ Gat l r ∧ Below w.heap.size w w' := by
  go_enter Try.func10, Try.ntmps10
  go_wp2_with fail
  refine (least_any v l _ h hl).mono ?_
  rintro e w1 ⟨v1, r1, rfl, ho1, hL, hb1⟩
  have hrl := hL.len
  go_wp2_with fail
  refine (sort_any 27 cmpS three_cmpS enters_compare compare_only v1 r1 _ _ ho1 (by omega)).mono ?_
  rintro e w2 ⟨rfl, r, hp, hs, ho2, hg2⟩
  have hb2 := hb1.grown hg2 hb1.size (fun k hk => (ho1.lt k hk).1)
  go_wp2_with fail
  refine (apart_any v1 r _ _ ho2 (by have := hp.length_eq; omega) (fun s hs' => hd s (hL.sub s (hp.mem_iff.1 hs')))).mono ?_
  rintro e w3 ⟨rfl, ho3, hg3⟩
  have hb3 := hb2.grown hg3 hb2.size (fun k hk => (ho2.lt k hk).1)
  go_wp2_with fail
  go_ret
  refine ⟨_, _, rfl, ho3, ?_, hb3⟩
  obtain ⟨d, hp1, hs1, rfl⟩ := hL
  exact Gat.made hp1 hs1 hp hs

set_option maxHeartbeats 1600000 in
set_option maxRecDepth 100000 in
theorem grow0_any (n : Nat) (w : World) (hn : n ≤ 1000000000) :
    Calls Try.prog 45 #[.slice none 0 0, .int .i64 (n : Int)] w fun e w' => ∃ v', e = .returned v' ∧ Own5 w' w.heap.size v' [] ∧ Below w.heap.size w w' := by
  by_cases h0 : n = 0
  · subst h0
    go_enter Try.func45, Try.ntmps45
    go_wp2_with fail
    go_ret
    exact ⟨_, rfl, Own5.nil _ _, Below.refl _ _⟩
  · obtain ⟨i, z, hi, hz, hs, hby, hzs⟩ := spT.info
    have hneg : ¬ ((n : Int) < 0) := by omega
    have hpos : (n : Int) > 0 := by omega
    have hG1 : n ≤ grownCap w n 0 40 := grownCap_ge w _ _ _
    have hG2 := grownCap_le_maxLen w n 0 40 (by unfold maxLen; omega)
    have hrz : ∀ ty, (Builtin.append_ #[22, 3] ty #[.slice none 0 0, .int .i64 (n : Int)]).run Try.prog w =
        .ok (.slice (some ⟨w.heap.size, 0, none⟩) n (grownCap w n 0 40)) (w.drew.alloc (.cells (#[] ++ Builtin.zeroCells z.cells n ++ Builtin.zeroCells z.cells (grownCap w n 0 40 - n)) 40)) := fun ty => by
      have h := Lib.run_append_grow_zeros (P := Try.prog) w 22 3 ty 40 i z .i64 .i64 spT.under Try.underlying3 hi hz none 0 0 [] (run_firstCells_none w.drew i.size 0 0 0) n (by omega) (by omega) (by omega) (by omega)
        (by rw [hby]; omega) (growslice_fits (by omega) (by rw [hby]; omega))
      simpa using h
    generalize grownCap w n 0 40 = G at hG1 hG2 hrz
    have hu0 := run_upto none 0 0 0 (Nat.le_refl _) (Nat.le_refl _)
    have hu1 := run_upto (some ⟨w.heap.size, 0, none⟩) n G 0 (Nat.zero_le _) hG1
    simp only [Int.natCast_zero] at hu0 hu1
    have hcz : (#[] ++ Builtin.zeroCells z.cells n ++ Builtin.zeroCells z.cells (G - n)).size = G * 5 := by
      simp [Builtin.zeroCells, hzs]
      omega
    generalize (#[] ++ Builtin.zeroCells z.cells n ++ Builtin.zeroCells z.cells (G - n)) = cs at hrz hcz
    have ho : Own5 (w.drew.alloc (.cells cs 40)) w.heap.size (.slice (some ⟨w.heap.size, 0, none⟩) 0 G) [] :=
      ⟨[], ⟨World.ownsRow_made w.drew cs G (Nat.le_refl _) hG2 hcz, fun x hx => by cases hx⟩, Two.nil⟩
    have hb : Below w.heap.size w (w.drew.alloc (.cells cs 40)) := (Below.refl _ _).drew.alloc (Nat.le_refl _) _
    have HO := Lib.hid ho
    simp only [maxLen] at hG2
    clear ho hcz hi hz hs hby hzs
    go_enter Try.func45, Try.ntmps45
    go_wp2_with (at_builtin; refine Lib.wpList_append_run _ rfl _ _ _ _ rfl _ _ rfl rfl _ _ (hrz _) ?_)
    go_ret
    exact ⟨_, rfl, HO.out, hb⟩

set_option maxHeartbeats 1600000 in
set_option maxRecDepth 100000 in
theorem concat_any (va vb : Value) (a b : List Sn) (g : Nat) (w : World) (ha : Ss w va a) (hb : Ss w vb b) (hB : Blk w g 22 #[va, vb]) (hla : a.length ≤ 100000000) (hlb : b.length ≤ 100000000) :
    Calls Try.prog 31 #[.slice (some ⟨g, 0, none⟩) 2 2] w fun e w' => ∃ v', e = .returned v' ∧ Own5 w' w.heap.size v' (a ++ b) ∧ Below w.heap.size w w' := by
  have HA := Lib.hid ha
  have HB := Lib.hid hb
  obtain ⟨A1, c1, rfl, hc1, hc1'⟩ := ha.form
  obtain ⟨A2, c2, rfl, hc2, hc2'⟩ := hb.form
  have b0 := hB.cell 0
  have b1 := hB.cell 1
  have hlt := hB.lt
  simp at b0 b1
  clear ha hb
  go_enter Try.func31, Try.ntmps31
  go_wp2_with fail
  refine wp_loop_rounds 3 ?_
  rw [rounds_succ]
  go_wp2_with fail
  rw [rounds_succ]
  go_wp2_with fail
  rw [rounds_succ]
  go_wp2_with fail
  refine (grow0_any (a.length + b.length) w (by omega)).mono ?_
  rintro e w1 ⟨v1, rfl, ho1, hb1⟩
  have HO1 := Lib.hid ho1
  replace b0 := (hb1.cell (p := ⟨g, 0, none⟩) hlt).trans b0
  replace b1 := (hb1.cell (p := ⟨g, 1, none⟩) hlt).trans b1
  clear ho1
  go_wp2_with fail
  refine wp_loop_rounds 3 ?_
  rw [rounds_succ]
  go_wp2_with (at_builtin; refine wpList_append_own5 _ rfl _ _ rfl rfl HO1.out rfl (Sf.of_ss HA.out hb1 (fun k hk => (HO1.out.lt k hk).1)) (by first | omega | (simp; omega)) hb1.size ?_)
  intro v2 w2 ho2 hg2 hv2
  have hb2 := hb1.grown hg2 hb1.size (fun k hk => (HO1.out.lt k hk).1)
  replace b1 : w2.cell? ⟨g, 1, none⟩ = _ := (World.cell?_of_block (hg2.block g (Nat.lt_of_lt_of_le hlt hb1.size) (fun e => by have := (HO1.out.lt g e.symm).1; omega))).trans b1
  have HO2 := Lib.hid ho2
  clear ho2 b0
  go_wp2_with fail
  rw [rounds_succ]
  go_wp2_with (at_builtin; refine wpList_append_own5 _ rfl _ _ rfl rfl HO2.out rfl (Sf.of_ss HB.out hb2 (fun k hk => (HO2.out.lt k hk).1)) (by first | omega | (simp; omega)) hb2.size ?_)
  intro v3 w3 ho3 hg3 hv3
  have hb3 := hb2.grown hg3 hb2.size (fun k hk => (HO2.out.lt k hk).1)
  have HO3 := Lib.hid ho3
  clear ho3 b1
  go_wp2_with fail
  rw [rounds_succ]
  go_wp2_with fail
  go_ret
  exact ⟨_, rfl, by simpa using HO3.out, hb3⟩

set_option maxHeartbeats 800000 in
theorem merge_any (va vb : Value) (a b : List Sn) (w : World) (ha : Ss w va a) (hb : Ss w vb b) (hla : a.length ≤ 10000000) (hlb : b.length ≤ 10000000) (hda : ∀ s ∈ a, s.data.length ≤ 1000000) (hdb : ∀ s ∈ b, s.data.length ≤ 1000000) :
    Calls Try.prog 12 #[va, vb] w fun e w' => ∃ v' r, e = .returned v' ∧ Own5 w' w.heap.size v' r ∧ Gat (a ++ b) r ∧ Below w.heap.size w w' := by
  have HA := Lib.hid ha
  have HB := Lib.hid hb
  obtain ⟨A1, c1, rfl, _⟩ := ha.form
  obtain ⟨A2, c2, rfl, _⟩ := hb.form
  have h0 : Below w.heap.size w (w.alloc (.cells #[.slice A1 a.length c1, .slice A2 b.length c2] 22)) := (Below.refl _ _).alloc (Nat.le_refl _) _
  clear ha hb
  go_enter Try.func12, Try.ntmps12
  go_wp2_with fail
  refine (concat_any _ _ a b w.heap.size _ (HA.out.below h0) (HB.out.below h0) (Blk.new _ _ _) (by omega) (by omega)).mono ?_
  rintro e w1 ⟨v1, rfl, ho1, hb1⟩
  have hB1 := h0.trans (hb1.mono h0.size)
  go_wp2_with fail
  refine (gather_any v1 (a ++ b) _ ho1.ss (by simp; omega) (fun s hs => by
    rcases List.mem_append.1 hs with h | h
    · exact hda s h
    · exact hdb s h)).mono ?_
  rintro e w2 ⟨v2, r, rfl, ho2, hG, hb2⟩
  have hB2 := hB1.trans (hb2.mono hB1.size)
  go_wp2_with fail
  go_ret
  exact ⟨_, _, rfl, ho2.lower hB1.size, hG, hB2⟩

/-- a literal of one span, its Data older than the call -/
theorem Sf.lit {w0 W : World} (hB : Below w0.heap.size w0 W) {s : Sn} {d : Value} (hok : s.ok) (hd : Bs w0 d s.data) {H : Nat} (hH : W.heap.size = H) {row : Option Nat} (hr : ∀ g, row = some g → w0.heap.size ≤ g) :
    Sf (W.alloc (.cells #[.int .u64 s.tr, .int .u64 s.id, .int .i64 s.st, .int .i64 s.en, d] 40)) row (.slice (some ⟨H, 0, none⟩) 1 1) [s] := by
  subst hH
  refine ⟨[spCells s d], Lv.lit1 (w := W) (spCells s d) 40, ?_⟩
  refine Two.nil.snoc (l := []) (m := []) ⟨hok, d, rfl, (hd.below hB).alloc _, fun hne e => ?_⟩
  obtain ⟨k, hk, hk'⟩ := hd.block hne
  rw [hk] at e
  have := hr k e.symm
  omega

set_option maxHeartbeats 1600000 in
set_option maxRecDepth 100000 in
theorem of_any (v : Value) (l : List Sn) (i : Int) (w : World) (h : Ss w v l) (hl : l.length ≤ 10000000) (hd : ∀ s ∈ l, s.data.length ≤ 1000000) :
    Calls Try.prog 13 #[v, .int .u64 i] w fun e w' => ∃ v' r, e = .returned v' ∧ Own5 w' w.heap.size v' r ∧ Gat (l.filter fun s => decide (s.tr = i)) r ∧ Below w.heap.size w w' := by
  obtain ⟨A, c, rfl, hc1, hc2⟩ := h.form
  have H := Lib.hid h
  clear h
  go_enter Try.func13, Try.ntmps13
  go_wp2_with fail
  go_loopw [5, 10] (fun ov kv wr => ∃ k : Nat, k ≤ l.length ∧ kv = .int .i64 (k : Int) ∧ Own5 wr w.heap.size ov ((l.take k).filter fun s => decide (s.tr = i)) ∧ Below w.heap.size w wr) (fun _ kv _ => l.length - (intOf kv).toNat)
  case atStart => exact ⟨0, Nat.zero_le _, rfl, Own5.nil _ _, Below.refl _ _⟩
  case round =>
    obtain ⟨k, hk, rfl, hO, hB⟩ := hrel
    by_cases hlt : k < l.length
    · obtain ⟨s, hks⟩ : ∃ s, l[k]? = some s := ⟨_, List.getElem?_eq_getElem hlt⟩
      obtain ⟨g, o, d, rfl, hg, c0, c1, c2, c3, c4, hdd, hok⟩ := H.out.cells hks
      replace c0 := (hB.cell (p := ⟨g, o + k * 5, none⟩) hg).trans c0
      replace c1 := (hB.cell (p := ⟨g, o + k * 5 + 1, none⟩) hg).trans c1
      replace c2 := (hB.cell (p := ⟨g, o + k * 5 + 2, none⟩) hg).trans c2
      replace c3 := (hB.cell (p := ⟨g, o + k * 5 + 3, none⟩) hg).trans c3
      replace c4 := (hB.cell (p := ⟨g, o + k * 5 + 4, none⟩) hg).trans c4
      have HT := Lib.hid (take_snoc_at hks)
      have hgr := Nat.lt_of_lt_of_le hg hB.size
      have hb1 : Below w.heap.size w (wr.alloc (.cells #[.int .u64 s.tr, .int .u64 s.id, .int .i64 s.st, .int .i64 s.en, d] 40)) := hB.alloc hB.size _
      have ho1 := hO.below ((Below.refl wr.heap.size wr).alloc (Nat.le_refl _) (.cells #[.int .u64 s.tr, .int .u64 s.id, .int .i64 s.st, .int .i64 s.en, d] 40))
      have ho2 := ho1.below ((Below.refl _ _).alloc (Nat.le_refl _) (.cells #[.int .u64 s.tr, .int .u64 s.id, .int .i64 s.st, .int .i64 s.en, d] 40))
      have hb2 : Below w.heap.size w ((wr.alloc (.cells #[.int .u64 s.tr, .int .u64 s.id, .int .i64 s.st, .int .i64 s.en, d] 40)).alloc (.cells #[.int .u64 s.tr, .int .u64 s.id, .int .i64 s.st, .int .i64 s.en, d] 40)) := hb1.alloc hb1.size _
      have hsf : Sf ((wr.alloc (.cells #[.int .u64 s.tr, .int .u64 s.id, .int .i64 s.st, .int .i64 s.en, d] 40)).alloc (.cells #[.int .u64 s.tr, .int .u64 s.id, .int .i64 s.st, .int .i64 s.en, d] 40)) u5.ownBlock (.slice (some ⟨wr.heap.size + 1, 0, none⟩) 1 1) [s] :=
        Sf.lit hb1 hok hdd (by simp) (fun q hq => (hO.lt q hq).1)
      have HO1 := Lib.hid ho1
      have HO2 := Lib.hid ho2
      have HSF := Lib.hid hsf
      have hfl : ((l.take k).filter fun s => decide (s.tr = i)).length ≤ 10000000 := by
        have := List.length_filter_le (fun s : Sn => decide (s.tr = i)) (l.take k)
        rw [List.length_take] at this
        omega
      have HFL := Lib.hid hfl
      obtain ⟨A1, cc1, hdv, _⟩ := hdd
      subst hdv
      clear hO ho1 ho2 hsf hks hfl
      by_cases he : s.tr = i
      · have k1 : (s.tr == i) = true := by simpa using he
        have HE := Lib.hid he
        clear he
        go_wp2_with (at_builtin; refine wpList_append_own5 _ rfl _ _ rfl rfl HO2.out rfl HSF.out (by have := HFL.out; simp only [List.length_singleton]; omega) hb2.size ?_)
        intro v5 w5 ho5 hg5 _
        go_wp2_with fail
        refine ⟨⟨k + 1, by omega, by go_num, ?_, hb2.grown hg5 hb2.size (fun q hq => (HO2.out.lt q hq).1)⟩, by simp [intOf]; omega⟩
        rw [HT.out, List.filter_append]
        simpa [HE.out] using ho5
      · have k1 : (s.tr == i) = false := by simpa using he
        have HE := Lib.hid he
        clear he
        go_wp2_with fail
        refine ⟨⟨k + 1, by omega, by go_num, ?_, hb1⟩, by simp [intOf]; omega⟩
        rw [HT.out, List.filter_append]
        simpa [HE.out] using HO1.out
    · have hkk : k = l.length := by omega
      subst hkk
      rw [List.take_length] at hO
      have hfl : (l.filter fun s => decide (s.tr = i)).length ≤ 10000000 := by
        have := List.length_filter_le (fun s : Sn => decide (s.tr = i)) l
        omega
      go_wp2_with fail
      refine (gather_any _ _ _ hO.ss (by omega) (fun s hs => hd s (List.mem_filter.1 hs).1)).mono ?_
      rintro e w2 ⟨v2, r, rfl, ho2, hG, hb2⟩
      have hB2 := hB.trans (hb2.mono hB.size)
      go_wp2_with fail
      go_ret
      exact ⟨_, _, rfl, ho2.lower hB.size, hG, hB2⟩

end Go.Proofs.Ytalljllloffieaa

/-
  CONTRACTS of slices.CompactFunc at spans under trace.isOfOne, trace.leastOnes, trace.Gather.
-/
import Derived.Test.YtpanpebllapbcaaTrC
namespace Go.Proofs.Ytpanpebllapbcaa
open Go.RowKit
set_option maxRecDepth 100000


/-- one span put into a row of the call's own -/
theorem Own5.put {w : World} {base g n c : Nat} {l : List Sn} (h : Own5 w base (.slice (some ⟨g, 0, none⟩) n c) l) {i : Nat} (hi : i < l.length) {a : Sn} {d : Value} (ha : SpF w (some g) a (spCells a d)) :
    Own5 (((((w.setCell ⟨g, i * 5, none⟩ (.int .u64 a.tr)).setCell ⟨g, i * 5 + 1, none⟩ (.int .u64 a.id)).setCell ⟨g, i * 5 + 2, none⟩ (.int .i64 a.st)).setCell ⟨g, i * 5 + 3, none⟩ (.int .i64 a.en)).setCell ⟨g, i * 5 + 4, none⟩ d) base (.slice (some ⟨g, 0, none⟩) n c) (l.set i a) ∧
    w.grownBy (((((w.setCell ⟨g, i * 5, none⟩ (.int .u64 a.tr)).setCell ⟨g, i * 5 + 1, none⟩ (.int .u64 a.id)).setCell ⟨g, i * 5 + 2, none⟩ (.int .i64 a.st)).setCell ⟨g, i * 5 + 3, none⟩ (.int .i64 a.en)).setCell ⟨g, i * 5 + 4, none⟩ d) (some g) := by
  obtain ⟨xs, ⟨h1, hk⟩, h2⟩ := h
  have hnx : xs.length = n := by
    rcases h1.2 with ⟨hv, _⟩ | ⟨g', cap, cur, hv, _⟩
    · cases hv
    · injection hv with e1 e2 e3
      exact e2.symm
  have hix : i < xs.length := by have := h2.len; omega
  rw [hnx] at h1
  have hx : xs[i]? = some xs[i] := List.getElem?_eq_getElem hix
  have hx5 : xs[i].length = 5 := hk _ (List.getElem_mem hix)
  obtain ⟨p0, p1, p2, p3, p4, hp⟩ : ∃ p0 p1 p2 p3 p4, xs[i] = [p0, p1, p2, p3, p4] := by
    generalize xs[i] = q at hx5
    match q, hx5 with
    | [p0, p1, p2, p3, p4], _ => exact ⟨p0, p1, p2, p3, p4, rfl⟩
  rw [hp] at hx
  have hkk : ∀ (x : List Value), x.length = 5 → ∀ y ∈ xs.set i x, y.length = 5 := by
    intro x hx5 y hy
    rcases List.mem_or_eq_of_mem_set hy with hy | rfl
    · exact hk y hy
    · exact hx5
  have hat : ∀ x, (xs.set i x)[i]? = some x := fun x => by simp [hix]
  obtain ⟨s0, g0⟩ := h1.stored (i * 5 + 0) (.int .u64 a.tr)
  rw [flat_set1 hk _ hx (show 0 < 5 by omega)] at s0
  obtain ⟨s1, g1⟩ := s0.stored (i * 5 + 1) (.int .u64 a.id)
  rw [flat_set1 (hkk _ rfl) _ (hat _) (show 1 < 5 by omega), List.set_set] at s1
  obtain ⟨s2, g2⟩ := s1.stored (i * 5 + 2) (.int .i64 a.st)
  rw [flat_set1 (hkk _ rfl) _ (hat _) (show 2 < 5 by omega), List.set_set] at s2
  obtain ⟨s3, g3⟩ := s2.stored (i * 5 + 3) (.int .i64 a.en)
  rw [flat_set1 (hkk _ rfl) _ (hat _) (show 3 < 5 by omega), List.set_set] at s3
  obtain ⟨s4, g4⟩ := s3.stored (i * 5 + 4) d
  rw [flat_set1 (hkk _ rfl) _ (hat _) (show 4 < 5 by omega), List.set_set] at s4
  have hgr := grown_trans (grown_trans (grown_trans (grown_trans g0 g1) g2) g3) g4
  refine ⟨⟨xs.set i (spCells a d), ⟨?_, ?_⟩, ?_⟩, hgr⟩
  · rw [List.length_set, hnx]
    exact s4
  · exact hkk _ rfl
  · exact (h2.mono fun s x hs => hs.grown hgr).set i (ha.grown hgr)

/-- clear(s[m:]): the first m stay -/
theorem run_clear_own5 (w : World) {base g n c : Nat} {l : List Sn} (h : Own5 w base (.slice (some ⟨g, 0, none⟩) n c) l) (m : Nat) (hm : m < n) :
    ∃ w', (∀ ty, (Builtin.clear_ #[33] ty #[.slice (some ⟨g, m * 5, none⟩) (n - m) (c - m)]).run Try.prog w = .ok (.tuple #[]) w') ∧ Own5 w' base (.slice (some ⟨g, 0, none⟩) m c) (l.take m) ∧ w.grownBy w' (some g) := by
  obtain ⟨xs, ⟨h1, hk⟩, h2⟩ := h
  rcases h1.2 with ⟨hv, _⟩ | ⟨g', cap, cur, hv, hb, hg, hn, hcm, hcs, htk⟩
  · cases hv
  injection hv with e1 e2 e3
  injection e1 with e1
  injection e1 with e1
  subst e1 e3
  rw [← e2] at hn htk h1
  obtain ⟨i, z, hi, hz, hs, hby, hzs⟩ := spT.info
  have hone : ∀ v ∈ (Builtin.zeroCells z.cells (n - m)).toList, v.oneCell' = true := by
    intro v hv
    simp only [Builtin.zeroCells, Array.toList_map, List.mem_map] at hv
    obtain ⟨j, _, rfl⟩ := hv
    have hz' : z = .agg #[.int .u64 0, .int .u64 0, .int .i64 0, .int .i64 0, .slice none 0 0] := by
      have e : (Try.prog.info? 51).bind (·.zero) = some (.agg #[.int .u64 0, .int .u64 0, .int .i64 0, .int .i64 0, .slice none 0 0]) := by kernel_rfl
      rw [hi] at e
      simp only [Option.bind_some, hz, Option.some.injEq] at e
      exact e
    subst hz'
    have hj : j % 5 < 5 := Nat.mod_lt _ (by omega)
    simp only [Value.cells]
    generalize j % 5 = q at hj
    match q, hj with
    | 0, _ => rfl
    | 1, _ => rfl
    | 2, _ => rfl
    | 3, _ => rfl
    | 4, _ => rfl
  have hzl : (Builtin.zeroCells z.cells (n - m)).toList.length = (n - m) * 5 := by simp [Builtin.zeroCells, hzs]
  have hle : m * 5 + (n - m) * 5 = n * 5 := by omega
  have hst := run_storeCells_at Try.prog g (m * 5) 51 (Builtin.zeroCells z.cells (n - m)).toList 0 cur w hg (by rw [hzl, hcs]; omega) hone
  have hzv : (zeroValue 51).run Try.prog w = .ok z w := by simp [zeroValue, typeInfo, hi, hz]
  have hrun : ∀ ty, (Builtin.clear_ #[33] ty #[.slice (some ⟨g, m * 5, none⟩) (n - m) (c - m)]).run Try.prog w = .ok (.tuple #[]) (w.setRow g (cur.toList.take (m * 5 + 0) ++ (Builtin.zeroCells z.cells (n - m)).toList ++ cur.toList.drop (m * 5 + 0 + (Builtin.zeroCells z.cells (n - m)).toList.length)).toArray) := by
    intro ty
    obtain ⟨q, hq⟩ : ∃ q, n - m = q + 1 := ⟨n - m - 1, by omega⟩
    rw [hq] at hst ⊢
    simp only [Builtin.clear_, List.getElem?_toArray, List.getElem?_cons_zero, Sem.run_bind, run_underlying spT.under, Result.andThen_ok, hzv, hst, Sem.run_pure]
  have hgr : w.grownBy (w.setRow g (cur.toList.take (m * 5 + 0) ++ (Builtin.zeroCells z.cells (n - m)).toList ++ cur.toList.drop (m * 5 + 0 + (Builtin.zeroCells z.cells (n - m)).toList.length)).toArray) (some g) :=
    ⟨rfl, rfl, rfl, by simp [World.setRow], fun k' _ hk' => setRow_other w g k' _ (fun e => hk' (by simp [e]))⟩
  refine ⟨_, hrun, ⟨xs.take m, ⟨?_, fun x hx => hk x (List.mem_of_mem_take hx)⟩, (h2.mono fun s x hs => hs.grown hgr).take m⟩, hgr⟩
  have hlm : (xs.take m).length = m := by rw [List.length_take]; omega
  have hfl := flat_length (xs := xs.take m) (k := 5) fun x hx => hk x (List.mem_of_mem_take hx)
  rw [hlm] at hfl ⊢
  refine ⟨hfl, .inr ⟨g, c, _, rfl, hb, setRow_heap w g cur _ _ _ hg, by omega, hcm, ?_, ?_⟩⟩
  · simp only [List.size_toArray, List.length_append, hzl, List.length_take, List.length_drop, Array.length_toList]
    omega
  · simp only [Nat.add_zero]
    rw [List.append_assoc, List.take_append_of_le_length (by rw [List.length_take, Array.length_toList]; omega), List.take_take, Nat.min_self]
    have hxs : xs.flatten = (xs.take m).flatten ++ (xs.drop m).flatten := by rw [← List.flatten_append, List.take_append_drop]
    have h5 : cur.toList.take (m * 5) = (cur.toList.take (n * 5)).take (m * 5) := by rw [List.take_take, Nat.min_eq_left (by omega)]
    rw [h5, htk, hxs, List.take_append_of_le_length (by omega), List.take_of_length_le (by omega)]

theorem run_from (g n c k : Nat) (hkn : k < n) (hnc : n ≤ c) (u : World) :
    (Instr.slice 33 (.slice (some ⟨g, 0, none⟩) n c) (some (.int .i64 (k : Int))) none none).run Try.prog u = .ok (.slice (some ⟨g, k * 5, none⟩) (n - k) (c - k)) u := by
  obtain ⟨i, z, hi, hz, hs, hby, hzs⟩ := spT.info
  have he : Try.prog.elem 33 = 51 := by kernel_rfl
  rw [run_slice_l (P := Try.prog) (w := u) (t := 33) (a := some ⟨g, 0, none⟩) (len := n) (cap := c) (ht := by rw [he]; exact spT.under) .i64 k (by omega) (by omega)]
  simp [sizeOf, typeInfo, he, hi, hs, sliced, Addr.add_lit, show ¬ c = k by omega]

theorem run_upto (A : Option Addr) (n c k : Nat) (hkn : k ≤ n) (hnc : n ≤ c) (u : World) :
    (Instr.slice 33 (.slice A n c) none (some (.int .i64 (k : Int))) none).run Try.prog u = .ok (.slice A k c) u := by
  obtain ⟨i, z, hi, hz, hs, hby, hzs⟩ := spT.info
  have he : Try.prog.elem 33 = 51 := by kernel_rfl
  rw [run_slice_h (P := Try.prog) (w := u) (t := 33) (a := A) (len := n) (cap := c) (ht := by rw [he]; exact spT.under) .i64 k (by omega) (by omega)]
  simp [sizeOf, typeInfo, he, hi, hs, sliced]
  intro _
  cases A <;> simp [Addr.add]

set_option maxRecDepth 100000 in
set_option maxHeartbeats 1600000 in
theorem compact_any (v : Value) (l : List Sn) (base : Nat) (w : World) (h : Own5 w base v l) (hl : l.length ≤ 1000000000) :
    Calls Try.prog 55 #[v, .func (.func 56) #[] #[]] w fun e w' => ∃ v', e = .returned v' ∧ Own5 w' base v' (dedL l) ∧ w.grownBy w' v.ownBlock ∧ v'.ownBlock = v.ownBlock := by
  by_cases h2 : l.length < 2
  · have e : dedL l = l := by
      match l, h2 with
      | [], _ => rfl
      | [x], _ => rfl
    rw [e]
    have HO := Lib.hid h
    rcases h.form with ⟨rfl, rfl⟩ | ⟨g, c, rfl, hc1, hc2, hbg, hgw⟩
    · clear h e
      go_enter Try.func55, Try.ntmps55
      go_wp2_with fail
      go_ret
      exact ⟨_, rfl, HO.out, World.grownBy.refl _ _, rfl⟩
    · clear h e
      go_enter Try.func55, Try.ntmps55
      go_wp2_with fail
      go_ret
      exact ⟨_, rfl, HO.out, World.grownBy.refl _ _, rfl⟩
  · rcases h.form with ⟨rfl, rfl⟩ | ⟨g, c, rfl, hc1, hc2, hbg, hgw⟩
    · exact absurd (show ([] : List Sn).length < 2 by simp) h2
    have HO := Lib.hid h
    have HE : Hid (∀ args w, (callFunc 56 args).run Try.prog w = .ok (.enter 56 args) w) := Lib.hid (enters_of Try.func56 (by kernel_rfl) rfl)
    clear h
    go_enter Try.func55, Try.ntmps55
    go_wp2_with fail
    go_loopw [5, 6, 7] (fun i _ _ wr => ∃ m : Nat, m + 1 ≤ l.length ∧ i = .int .i64 ((m : Int) + 1) ∧ Own5 wr base (.slice (some ⟨g, 0, none⟩) l.length c) l ∧ w.grownBy wr (some g) ∧ Hid (dedL (l.take (m + 1)) = l.take (m + 1))) (fun i _ _ _ => l.length - (intOf i).toNat)
    case atStart =>
      refine ⟨0, by omega, by go_num, HO.out, World.grownBy.refl _ _, Lib.hid ?_⟩
      match l, h2 with
      | [], h => exact absurd (by simp) h
      | [x], h => rfl
      | x :: y :: t, _ => rfl
    case round =>
      obtain ⟨m, hm, rfl, hO, hG, HD⟩ := hrel
      by_cases hlt : m + 1 < l.length
      · obtain ⟨a, ha⟩ : ∃ s, l[m + 1]? = some s := ⟨_, List.getElem?_eq_getElem hlt⟩
        obtain ⟨b, hb⟩ : ∃ s, l[m]? = some s := ⟨_, List.getElem?_eq_getElem (by omega)⟩
        have HO1 := Lib.hid hO
        have HA := Lib.hid ha
        have HB := Lib.hid hb
        obtain ⟨d, c0, c1, c2, c3, c4, hd, hn, hok⟩ := hO.cells ha
        obtain ⟨d', x0, x1, x2, x3, x4, hd', hn', hok'⟩ := hO.cells hb
        have hgr := (hO.lt g rfl).2
        have r0 : ∀ u, Only wr u → u.cell? ⟨g, (m + 1) * 5, none⟩ = some (.int .u64 a.tr) := fun u h => (h.below.cell hgr).trans c0
        have r1 : ∀ u, Only wr u → u.cell? ⟨g, (m + 1) * 5 + 1, none⟩ = some (.int .u64 a.id) := fun u h => (h.below.cell hgr).trans c1
        have r2 : ∀ u, Only wr u → u.cell? ⟨g, (m + 1) * 5 + 2, none⟩ = some (.int .i64 a.st) := fun u h => (h.below.cell hgr).trans c2
        have r3 : ∀ u, Only wr u → u.cell? ⟨g, (m + 1) * 5 + 3, none⟩ = some (.int .i64 a.en) := fun u h => (h.below.cell hgr).trans c3
        have r4 : ∀ u, Only wr u → u.cell? ⟨g, (m + 1) * 5 + 4, none⟩ = some d := fun u h => (h.below.cell hgr).trans c4
        have t0 : ∀ u, Only wr u → u.cell? ⟨g, m * 5, none⟩ = some (.int .u64 b.tr) := fun u h => (h.below.cell hgr).trans x0
        have t1 : ∀ u, Only wr u → u.cell? ⟨g, m * 5 + 1, none⟩ = some (.int .u64 b.id) := fun u h => (h.below.cell hgr).trans x1
        have t2 : ∀ u, Only wr u → u.cell? ⟨g, m * 5 + 2, none⟩ = some (.int .i64 b.st) := fun u h => (h.below.cell hgr).trans x2
        have t3 : ∀ u, Only wr u → u.cell? ⟨g, m * 5 + 3, none⟩ = some (.int .i64 b.en) := fun u h => (h.below.cell hgr).trans x3
        have t4 : ∀ u, Only wr u → u.cell? ⟨g, m * 5 + 4, none⟩ = some d' := fun u h => (h.below.cell hgr).trans x4
        have V1 : SV wr.drew (.agg #[.int .u64 a.tr, .int .u64 a.id, .int .i64 a.st, .int .i64 a.en, d]) a := ⟨hok, d, rfl, hd⟩
        have V2 : SV wr.drew (.agg #[.int .u64 b.tr, .int .u64 b.id, .int .i64 b.st, .int .i64 b.en, d']) b := ⟨hok', d', rfl, hd'⟩
        have hb0 : (0 : Int) ≤ (m : Int) + 1 := by omega
        have hb1 : (m : Int) + 1 < (l.length : Int) := by omega
        have hb2 : (0 : Int) ≤ (m : Int) := by omega
        have hb3 : (m : Int) < (l.length : Int) := by omega
        have hw : IntKind.i64.wrap (m : Int) = (m : Int) := by simp [IntKind.wrap, IntKind.bits, IntKind.signed]; omega
        clear c0 c1 c2 c3 c4 x0 x1 x2 x3 x4 hd hd' hn hn' ha hb
        go_wp2_with fail
        refine wp_region_mix [(0, false), (1, false), (2, false), (3, false), (4, false), (5, false), (6, false), (7, false), (8, false), (9, false), (10, true)] (fun u => Only wr u) (by kernel_rfl) (by kernel_rfl) (by kernel_rfl) rfl (Only.refl _).drew ?_
        have hS0 : Only wr wr.drew := (Only.refl _).drew
        repeat
          (refine mix_read (o := ⟨_, _, _, _, _, _⟩) (v := ?_) rfl (by rfl) (fun w' hS => ?_) ?_
           rotate_left
           go_simp
           with_reducible rfl
           try simp only [Act.put, List.setIfInBounds_toArray, List.set_cons_zero, List.set_cons_succ])
        clear r0 r1 r2 r3 r4 t0 t1 t2 t3 t4
        refine mix_step (o := ⟨_, _, _, _, _, _⟩) rfl (fun K hK => ?_)
        go_simp
        refine (isOfOne_any _ _ a b _ V1 V2).mono ?_
        rintro e u1 ⟨rfl, hu1⟩
        have hU := hS0.trans hu1
        refine hK.out _ _ hU ?_
        clear hK K hb0 hb1 hb2 hb3 hw V1 V2 hu1
        refine mix_done ?_
        have hO3 := HO1.out.below hU.below
        have hG3 := grown_trans hG (grown_of_below hU.below (some g))
        clear hO hS0 hU
        cases hkab : keyB a b with
        | false =>
          have HKAB := Lib.hid hkab
          clear hkab
          go_wp2_with fail
          refine ⟨⟨m + 1, by omega, by go_num, hO3, hG3, Lib.hid ?_⟩, by simp [intOf]; omega⟩
          have e1 := take_snoc_at HA.out
          have e2 : (l.take (m + 1)).getLast? = some b := by
            rw [take_snoc_at HB.out]
            simp
          rw [e1, dedL_snoc e2, HKAB.out, HD.out]
          simp
        | true =>
          have HKAB := Lib.hid hkab
          clear hkab
          have HF := run_from g l.length c (m + 1) hlt hc1
          simp only [Int.natCast_add, Int.cast_ofNat_Int] at HF
          go_wp2_with fail
          clear HF
          go_loopw [5, 7] (fun kv iv wr => ∃ (kk j : Nat) (lc : List Sn), j + 1 ≤ l.length - (m + 1) ∧ kk ≤ m + 1 + j ∧ kv = .int .i64 (kk : Int) ∧ iv = .int .i64 ((j : Int) + 1) ∧ lc.length = l.length ∧ Own5 wr base (.slice (some ⟨g, 0, none⟩) l.length c) lc ∧ w.grownBy wr (some g) ∧ Hid (lc.take kk = dedL (l.take (m + 1 + (j + 1)))) ∧ Hid (lc.drop (m + 1 + j) = l.drop (m + 1 + j))) (fun _ iv _ => l.length - (intOf iv).toNat)
          case atStart =>
            refine ⟨m + 1, 0, l, by omega, by omega, by go_num, by go_num, rfl, hO3, hG3, Lib.hid ?_, Lib.hid rfl⟩
            have e1 := take_snoc_at HA.out
            have e2 : (l.take (m + 1)).getLast? = some b := by
              rw [take_snoc_at HB.out]
              simp
            rw [Nat.zero_add, e1, dedL_snoc e2, HKAB.out, HD.out]
            simp
          case round =>
            obtain ⟨kk, j, lc, hj, hkk, rfl, rfl, hlc, hO, hG, HT, HDR⟩ := hrel
            clear hO3 hG3
            by_cases hjl : j + 1 < l.length - (m + 1)
            · obtain ⟨p, hp⟩ : ∃ s, lc[m + 1 + (j + 1)]? = some s := ⟨_, List.getElem?_eq_getElem (by omega)⟩
              obtain ⟨q, hq⟩ : ∃ s, lc[m + 1 + j]? = some s := ⟨_, List.getElem?_eq_getElem (by omega)⟩
              obtain ⟨z, hz⟩ : ∃ s, lc[kk]? = some s := ⟨_, List.getElem?_eq_getElem (by omega)⟩
              have hp' : l[m + 1 + (j + 1)]? = some p := by
                have e : lc[m + 1 + j + 1]? = l[m + 1 + j + 1]? := by
                  have := congrArg (fun t : List Sn => t[1]?) HDR.out
                  simpa only [List.getElem?_drop] using this
                rw [show m + 1 + (j + 1) = m + 1 + j + 1 by omega] at hp ⊢
                rw [← e]
                exact hp
              have hq' : l[m + 1 + j]? = some q := by
                have e : lc[m + 1 + j]? = l[m + 1 + j]? := by
                  have := congrArg (fun t : List Sn => t[0]?) HDR.out
                  simpa only [List.getElem?_drop, Nat.add_zero] using this
                rw [← e]
                exact hq
              have HO2 := Lib.hid hO
              have HP := Lib.hid hp
              have HP' := Lib.hid hp'
              have HQ' := Lib.hid hq'
              have HLC := Lib.hid hlc
              have HZ := Lib.hid hz
              obtain ⟨d, c0, c1, c2, c3, c4, hd, hn, hok⟩ := hO.cells hp
              obtain ⟨d', x0, x1, x2, x3, x4, hd', hn', hok'⟩ := hO.cells hq
              have hgr := (hO.lt g rfl).2
              rw [show (m + 1 + (j + 1)) * 5 = (m + 1) * 5 + (j + 1) * 5 by omega] at c0 c1 c2 c3 c4
              rw [show (m + 1 + j) * 5 = (m + 1) * 5 + j * 5 by omega] at x0 x1 x2 x3 x4
              have r0 : ∀ u, Only wr u → u.cell? ⟨g, (m + 1) * 5 + (j + 1) * 5, none⟩ = some (.int .u64 p.tr) := fun u h => (h.below.cell hgr).trans c0
              have r1 : ∀ u, Only wr u → u.cell? ⟨g, (m + 1) * 5 + (j + 1) * 5 + 1, none⟩ = some (.int .u64 p.id) := fun u h => (h.below.cell hgr).trans c1
              have r2 : ∀ u, Only wr u → u.cell? ⟨g, (m + 1) * 5 + (j + 1) * 5 + 2, none⟩ = some (.int .i64 p.st) := fun u h => (h.below.cell hgr).trans c2
              have r3 : ∀ u, Only wr u → u.cell? ⟨g, (m + 1) * 5 + (j + 1) * 5 + 3, none⟩ = some (.int .i64 p.en) := fun u h => (h.below.cell hgr).trans c3
              have r4 : ∀ u, Only wr u → u.cell? ⟨g, (m + 1) * 5 + (j + 1) * 5 + 4, none⟩ = some d := fun u h => (h.below.cell hgr).trans c4
              have t0 : ∀ u, Only wr u → u.cell? ⟨g, (m + 1) * 5 + j * 5, none⟩ = some (.int .u64 q.tr) := fun u h => (h.below.cell hgr).trans x0
              have t1 : ∀ u, Only wr u → u.cell? ⟨g, (m + 1) * 5 + j * 5 + 1, none⟩ = some (.int .u64 q.id) := fun u h => (h.below.cell hgr).trans x1
              have t2 : ∀ u, Only wr u → u.cell? ⟨g, (m + 1) * 5 + j * 5 + 2, none⟩ = some (.int .i64 q.st) := fun u h => (h.below.cell hgr).trans x2
              have t3 : ∀ u, Only wr u → u.cell? ⟨g, (m + 1) * 5 + j * 5 + 3, none⟩ = some (.int .i64 q.en) := fun u h => (h.below.cell hgr).trans x3
              have t4 : ∀ u, Only wr u → u.cell? ⟨g, (m + 1) * 5 + j * 5 + 4, none⟩ = some d' := fun u h => (h.below.cell hgr).trans x4
              have V1 : SV wr.drew (.agg #[.int .u64 p.tr, .int .u64 p.id, .int .i64 p.st, .int .i64 p.en, d]) p := ⟨hok, d, rfl, hd⟩
              have V2 : SV wr.drew (.agg #[.int .u64 q.tr, .int .u64 q.id, .int .i64 q.st, .int .i64 q.en, d']) q := ⟨hok', d', rfl, hd'⟩
              have HD4 := Lib.hid hd
              have HN4 := Lib.hid hn
              have HOK := Lib.hid hok
              have hb0 : (0 : Int) ≤ (j : Int) + 1 := by omega
              have hb1 : (j : Int) + 1 < ((l.length - (m + 1) : Nat) : Int) := by omega
              have hb2 : (0 : Int) ≤ (j : Int) := by omega
              have hb3 : (j : Int) < ((l.length - (m + 1) : Nat) : Int) := by omega
              have hw : IntKind.i64.wrap (j : Int) = (j : Int) := by simp [IntKind.wrap, IntKind.bits, IntKind.signed]; omega
              obtain ⟨A1, cc1, hdv, hdc⟩ := hd
              subst hdv
              clear c0 c1 c2 c3 c4 x0 x1 x2 x3 x4 hd' hn hn' hp hq hp' hq' hO hlc hz hdc hok hok'
              have hkl : kk < l.length := by omega
              generalize hNN : l.length - (m + 1) = NN at hj hjl hb1 hb3
              have HNN := Lib.hid hNN
              have hNb : NN ≤ 1000000000 := by omega
              clear hNN
              go_wp2_with fail
              refine wp_region_mix [(0, false), (1, false), (2, false), (3, false), (4, false), (5, false), (6, false), (7, false), (8, false), (9, false), (10, true), (11, true)] (fun u => Only wr u) (by kernel_rfl) (by kernel_rfl) (by kernel_rfl) rfl (Only.refl _).drew ?_
              have hS0 : Only wr wr.drew := (Only.refl _).drew
              repeat
                (refine mix_read (o := ⟨_, _, _, _, _, _⟩) (v := ?_) rfl (by rfl) (fun w' hS => ?_) ?_
                 rotate_left
                 go_simp
                 with_reducible rfl
                 try simp only [Act.put, List.setIfInBounds_toArray, List.set_cons_zero, List.set_cons_succ])
              clear t0 t1 t2 t3 t4
              refine mix_step (o := ⟨_, _, _, _, _, _⟩) rfl (fun K hK => ?_)
              go_simp
              refine (isOfOne_any _ _ p q _ V1 V2).mono ?_
              rintro e u2 ⟨rfl, hu2⟩
              have hU := hS0.trans hu2
              have HU := Lib.hid hU
              refine hK.out _ _ hU ?_
              clear hK K hb2 hb3 hw V1 V2 hu2
              try simp only [Act.put, List.setIfInBounds_toArray, List.set_cons_zero, List.set_cons_succ]
              refine mix_step (o := ⟨_, _, _, _, _, _⟩) rfl (fun K hK => ?_)
              go_simp
              refine hK.out _ _ hU ?_
              clear hK K
              refine mix_done ?_
              have hO5 := HO2.out.below hU.below
              have hG5 := grown_trans hG (grown_of_below hU.below (some g))
              have hSp : SpF u2 (some g) p (spCells p (.slice A1 p.data.length cc1)) := ⟨HOK.out, _, rfl, HD4.out.below hU.below, HN4.out⟩
              have HSP := Lib.hid hSp
              clear hSp hS0 hU
              cases hkpq : keyB p q with
              | true =>
                have HKPQ := Lib.hid hkpq
                clear hkpq r0 r1 r2 r3 r4
                go_wp2_with fail
                have hn5 := HNN.out
                refine ⟨⟨kk, j + 1, lc, by omega, by omega, rfl, by go_num, HLC.out, hO5, hG5, Lib.hid ?_, Lib.hid ?_⟩, by simp [intOf]; omega⟩
                · have e1 := take_snoc_at HP'.out
                  have e2 : (l.take (m + 1 + (j + 1))).getLast? = some q := by
                    rw [show m + 1 + (j + 1) = m + 1 + j + 1 by omega, take_snoc_at HQ'.out]
                    simp
                  rw [show m + 1 + (j + 1 + 1) = m + 1 + (j + 1) + 1 by omega, e1, dedL_snoc e2, HKPQ.out, HT.out]
                  simp
                · have := congrArg (fun t : List Sn => t.drop 1) HDR.out
                  simpa only [List.drop_drop, show m + 1 + (j + 1) = m + 1 + j + 1 by omega] using this
              | false =>
                have HKPQ := Lib.hid hkpq
                clear hkpq
                have y0 := r0 _ HU.out
                have y1 := r1 _ HU.out
                have y2 := r2 _ HU.out
                have y3 := r3 _ HU.out
                have y4 := r4 _ HU.out
                clear r0 r1 r2 r3 r4
                obtain ⟨e1, z0, z1, z2, z3, z4, _⟩ := hO5.cells HZ.out
                have f0 := hO5.frozen (kk * 5)
                have f1 := hO5.frozen (kk * 5 + 1)
                have f2 := hO5.frozen (kk * 5 + 2)
                have f3 := hO5.frozen (kk * 5 + 3)
                have f4 := hO5.frozen (kk * 5 + 4)
                have HO5 := Lib.hid hO5
                clear hO5
                go_wp2_with fail
                have hn5 := HNN.out
                have hp5 := HO5.out.put (by rw [HLC.out]; exact hkl) HSP.out
                refine ⟨⟨kk + 1, j + 1, lc.set kk p, by omega, by omega, by go_num, by go_num, by rw [List.length_set]; exact HLC.out, hp5.1, grown_trans hG5 hp5.2, Lib.hid ?_, Lib.hid ?_⟩, by simp [intOf]; omega⟩
                · have e1 := take_snoc_at HP'.out
                  have e2 : (l.take (m + 1 + (j + 1))).getLast? = some q := by
                    rw [show m + 1 + (j + 1) = m + 1 + j + 1 by omega, take_snoc_at HQ'.out]
                    simp
                  have hlk : kk < lc.length := by rw [HLC.out]; exact hkl
                  have e3 : (lc.set kk p)[kk]? = some p := by simp [hlk]
                  rw [show m + 1 + (j + 1 + 1) = m + 1 + (j + 1) + 1 by omega, e1, dedL_snoc e2, HKPQ.out, ← HT.out, take_snoc_at e3, List.take_set_of_le (Nat.le_refl _)]
                  simp
                · rw [List.drop_set_of_lt (by omega)]
                  have := congrArg (fun t : List Sn => t.drop 1) HDR.out
                  simpa only [List.drop_drop, show m + 1 + (j + 1) = m + 1 + j + 1 by omega] using this
            · have hkl : kk < l.length := by omega
              have HF := run_from g l.length c kk hkl hc1
              have HU := run_upto (some ⟨g, 0, none⟩) l.length c kk (by omega) hc1
              have hjn : m + 1 + (j + 1) = l.length := by omega
              generalize hNN : l.length - (m + 1) = NN at hj hjl
              have hjl' : ¬ (j : Int) + 1 < (NN : Int) := by omega
              clear hNN
              obtain ⟨w5, hrun, hO5, hg5⟩ := run_clear_own5 wr hO kk hkl
              go_wp2_with fail
              go_ret
              refine ⟨_, rfl, ?_, grown_trans hG hg5, rfl⟩
              have h4 := HT.out
              rw [hjn, List.take_length] at h4
              rw [← h4]
              exact hO5
      · go_wp2_with fail
        go_ret
        refine ⟨_, rfl, ?_, hG, rfl⟩
        have e : m + 1 = l.length := by omega
        have h3 := HD.out
        rw [e, List.take_length] at h3
        rw [h3]
        exact hO

end Go.Proofs.Ytpanpebllapbcaa

/-
  CONTRACT of the document's Told (all that a scanner of a block tells), whatever the store has. Conditions: what it says.
  WHAT THE PROGRAM's SCANNER IS TO KEEP (ScanK). No theorem of its own but plain ones.
-/
import Derived.Test.YtfccfnbmmgfgcaaGreatDoorRdG
import Derived.Test.YtfccfnbmmgfgcaaGreatDoorRng
namespace Go.Proofs.YtfccfnbmmgfgcaaGreatDoor
open Go.RowKit
set_option maxRecDepth 100000

def upT (out : List Tn) (t : Tn) : Bool := match out.getLast? with
  | none => true
  | some u => decide (u.id < t.id)
def toP : List Tn → List Tn → Bool × List Tn
  | out, [] => (true, out)
  | out, t :: p => if upT out t = true then toP (out ++ [t]) p else (false, out)
theorem toP_no {out p : List Tn} {t : Tn} (h : upT out t = false) : toP out (t :: p) = (false, out) := by rw [toP, if_neg (by rw [h]; simp)]
theorem toP_on {out p : List Tn} {t : Tn} (h : upT out t = true) : toP out (t :: p) = toP (out ++ [t]) p := by rw [toP, if_pos h]
noncomputable def toR (id : Nat) : Nat → Nat → Sm → List Tn → (Int × List Tn) × Sm
  | 0, _, m, out => ((0, out), m)
  | n + 1, k, m, out => if (pgR m id k).1 ≠ 0 then (((pgR m id k).1, out), callS m) else
    if (toP out (pgR m id k).2).1 = true then toR id n (k + 1) (callS m) (toP out (pgR m id k).2).2 else ((2, (toP out (pgR m id k).2).2), callS m)
theorem toR_fail {id n k : Nat} {m : Sm} {out : List Tn} (h : (pgR m id k).1 ≠ 0) : toR id (n + 1) k m out = (((pgR m id k).1, out), callS m) := by rw [toR, if_pos h]
theorem toR_no {id n k : Nat} {m : Sm} {out : List Tn} (h : (pgR m id k).1 = 0) (h2 : (toP out (pgR m id k).2).1 = false) : toR id (n + 1) k m out = ((2, (toP out (pgR m id k).2).2), callS m) := by rw [toR, if_neg (by rw [h]; simp), if_neg (by rw [h2]; simp)]
theorem toR_on {id n k : Nat} {m : Sm} {out : List Tn} (h : (pgR m id k).1 = 0) (h2 : (toP out (pgR m id k).2).1 = true) : toR id (n + 1) k m out = toR id n (k + 1) (callS m) (toP out (pgR m id k).2).2 := by rw [toR, if_neg (by rw [h]; simp), if_pos h2]
noncomputable def tlR (m : Sm) (id : Nat) : (Int × List Tn) × Sm :=
  if (meR m id).1 ≠ 0 then (((meR m id).1, []), callS m) else toR id (meR m id).2.pg.toNat 0 (callS m) []

def UpIds (l : List Tn) : Prop := ∀ (k : Nat) (a b : Tn), l[k]? = some a → l[k + 1]? = some b → a.id < b.id
theorem UpIds.left {a b : List Tn} (h : UpIds (a ++ b)) : UpIds a := fun k x y h1 h2 => h k x y (by
  have := (List.getElem?_eq_some_iff.1 h1).1
  rw [List.getElem?_append_left this]
  exact h1) (by
  have := (List.getElem?_eq_some_iff.1 h2).1
  rw [List.getElem?_append_left this]
  exact h2)
theorem toR_code (id : Nat) : ∀ (n k : Nat) (m : Sm) (out : List Tn), 0 ≤ (toR id n k m out).1.1 ∧ (toR id n k m out).1.1 ≤ 10
  | 0, _, _, _ => by simp [toR]
  | n + 1, k, m, out => by
    rw [toR]
    split
    · exact pgR_code _ _ _
    · split
      · exact toR_code id n _ _ _
      · simp
theorem tlR_code (m : Sm) (id : Nat) : 0 ≤ (tlR m id).1.1 ∧ (tlR m id).1.1 ≤ 10 := by
  unfold tlR
  split
  · exact meR_code _ _
  · exact toR_code _ _ _ _ _
noncomputable def scR (id n k : Nat) (m : Sm) (out l : List Tn) : (Int × List Tn) × Sm := if (toP out l).1 = true then toR id n k m (toP out l).2 else ((2, (toP out l).2), m)
theorem scR_on {id n k : Nat} {m : Sm} {out l : List Tn} {t : Tn} (h : upT out t = true) : scR id n k m out (t :: l) = scR id n k m (out ++ [t]) l := by
  unfold scR
  rw [toP_on h]
theorem scR_no {id n k : Nat} {m : Sm} {out l : List Tn} {t : Tn} (h : upT out t = false) : scR id n k m out (t :: l) = ((2, out), m) := by
  unfold scR
  rw [toP_no h, if_neg (by simp)]
theorem scR_nil {id n k : Nat} {m : Sm} {out : List Tn} : scR id n k m out [] = toR id n k m out := by
  unfold scR
  rw [toP, if_pos rfl]
theorem scR_fail {id n k : Nat} {m : Sm} {out : List Tn} (h : (pgR m id k).1 ≠ 0) : scR id (n + 1) k m out [] = (((pgR m id k).1, out), callS m) := by
  rw [scR_nil, toR_fail h]
theorem scR_page {id n k : Nat} {m : Sm} {out : List Tn} (h : (pgR m id k).1 = 0) : scR id (n + 1) k m out [] = scR id n (k + 1) (callS m) out (pgR m id k).2 := by
  rw [scR_nil]
  unfold scR
  by_cases h2 : (toP out (pgR m id k).2).1 = true
  · rw [toR_on h h2, if_pos h2]
  · rw [toR_no h (by simpa using h2), if_neg h2]
theorem toP_more : ∀ (p out : List Tn), ∃ s, (toP out p).2 = out ++ s
  | [], out => ⟨[], by rw [toP, List.append_nil]⟩
  | t :: p, out => by
    rw [toP]
    split
    · obtain ⟨s, e⟩ := toP_more p (out ++ [t])
      exact ⟨t :: s, by rw [e, List.append_assoc]; rfl⟩
    · exact ⟨[], by simp⟩
theorem toR_more {id : Nat} : ∀ (n k : Nat) (m : Sm) (out : List Tn), ∃ s, (toR id n k m out).1.2 = out ++ s
  | 0, _, _, out => ⟨[], by simp [toR]⟩
  | n + 1, k, m, out => by
    rw [toR]
    split
    · exact ⟨[], by simp⟩
    · obtain ⟨s, e⟩ := toP_more (pgR m id k).2 out
      split
      · obtain ⟨s2, e2⟩ := toR_more (id := id) n (k + 1) (callS m) (toP out (pgR m id k).2).2
        exact ⟨s ++ s2, by rw [e2, e, List.append_assoc]⟩
      · exact ⟨s, e⟩
theorem scR_more (id n k : Nat) (m : Sm) (out l : List Tn) : ∃ s, (scR id n k m out l).1.2 = out ++ s := by
  unfold scR
  obtain ⟨s, e⟩ := toP_more l out
  split
  · obtain ⟨s2, e2⟩ := toR_more (id := id) n k m (toP out l).2
    exact ⟨s ++ s2, by rw [e2, e, List.append_assoc]⟩
  · exact ⟨s, e⟩

set_option maxHeartbeats 6400000 in
theorem DTold_any {base g : Nat} {v : Value} {m : Sm} {N : Nat} (id : Nat) (w : World) (hD : DS w base g v m) (hm : m.fine N) (hN : N ≤ 10000) (hid : id < 18446744073709551616) :
    Calls Tryz.prog 9 #[.pointer (some ⟨g, 0, none⟩), .int .u64 (id : Int)] w fun e w' => ∃ y, e = .returned (.tuple #[y, .int .i64 (tlR m id).1.1]) ∧ DS w' base g v (tlR m id).2 ∧ (tlR m id).2.fine (N + 201) ∧ OwnK 2 w' w.heap.size 43 (fun q => q < w.heap.size) TnC y (tlR m id).1.2 ∧ Apt (fun q => q = g) w w' := by
  have hM := DMeta_any id w hD (hm.ok (by omega)) (by have := hm.calls1; omega) hid
  have HG := Lib.hid hD.blk.lt
  have HVB : Hid (∀ q, v.ownBlock = some q → q < w.heap.size) := Lib.hid fun q hq => hD.row.lt q hq
  have HM := Lib.hid hm
  have HPG : Hid ((meR m id).1 = 0 → 0 ≤ (meR m id).2.pg ∧ (meR m id).2.pg ≤ 200) := Lib.hid meR_pages
  have HAR : Hid (tlR m id = if (meR m id).1 ≠ 0 then (((meR m id).1, []), callS m) else toR id (meR m id).2.pg.toNat 0 (callS m) []) := Lib.hid rfl
  generalize meR m id = mr at hM HPG HAR
  obtain ⟨mc, mi, ml, ms, mn, mp, mt⟩ := mr
  simp only [meV] at hM
  clear hD hm
  go_enter Tryz.func9, Tryz.ntmps9
  go_wp2_with fail
  refine hM.mono ?_
  rintro e w1 ⟨rfl, hD1, hA1⟩
  have hb2 : Below w1.heap.size w1 (w1.alloc (.cells #[.int .u64 mi, .int .i64 ml, .int .i64 ms, .int .i64 mn, .int .i64 mp, .int .i64 mt] 62)) := (Below.refl _ _).alloc (Nat.le_refl _) _
  have HR2 : Hid (Blk (w1.alloc (.cells #[.int .u64 mi, .int .i64 ml, .int .i64 ms, .int .i64 mn, .int .i64 mp, .int .i64 mt] 62)) w1.heap.size 62 #[.int .u64 mi, .int .i64 ml, .int .i64 ms, .int .i64 mn, .int .i64 mp, .int .i64 mt]) := Lib.hid (Blk.new _ _ _)
  have HA2 := Lib.hid (hA1.trans (Apt.of_below hb2))
  have HD2 := Lib.hid (hD1.below hb2)
  have hs1 := hA1.size
  clear hM hD1 hA1 hb2
  by_cases hmc : mc = 0
  rotate_left
  · have hbe := errN hmc
    have HE : Hid (tlR m id = ((mc, []), callS m)) := Lib.hid (by rw [HAR.out, if_pos hmc])
    clear HAR
    go_wp2_with fail
    go_ret2
    rw [HE.out]
    exact ⟨_, rfl, HD2.out, HM.out.call.more (by omega), OwnK.nil _ _ _ _ _ _, HA2.out⟩
  subst hmc
  have hp0 := (HPG.out rfl).1
  have hp1 := (HPG.out rfl).2
  try simp only at hp0 hp1
  obtain ⟨n, rfl⟩ := nat_of (n := mp) hp0
  have HRE : Hid (tlR m id = toR id n 0 (callS m) []) := Lib.hid (by
    rw [HAR.out, if_neg (by simp)]
    rfl)
  have hn200 : n ≤ 200 := by omega
  clear HAR HPG hp0 hp1
  go_wp2_with fail
  revert HR2 HA2 HD2
  generalize w1.alloc (.cells #[.int .u64 mi, .int .i64 ml, .int .i64 ms, .int .i64 mn, .int .i64 (n : Int), .int .i64 mt] 62) = w2
  obtain ⟨g6, hg6⟩ : ∃ z, z = w1.heap.size := ⟨_, rfl⟩
  rw [← hg6]
  intro HR2 HA2 HD2
  have HG6 : Hid (w.heap.size ≤ g6) := Lib.hid (by omega)
  clear hg6 hs1
  go_loopg [8, 9] n (fun gk lv iv wr => ∃ (k : Nat) (mk : Sm) (out : List Tn), k + gk = n ∧ iv = .int .i64 (k : Int) ∧ Hid (OwnK 2 wr (g6 + 1) 43 (fun q => q < g6 + 1) TnC lv out ∧ DS wr base g v mk ∧ toR id n 0 (callS m) [] = toR id gk k mk out ∧ out.length ≤ 64 * k ∧ mk.fine (N + 1 + k) ∧ Blk wr g6 62 #[.int .u64 mi, .int .i64 ml, .int .i64 ms, .int .i64 mn, .int .i64 (n : Int), .int .i64 mt] ∧ Apt (fun q => q = g) w wr))
  case atStart => exact ⟨0, callS m, [], by omega, rfl, Lib.hid ⟨OwnK.nil _ _ _ _ _ _, HD2.out, rfl, by simp, HM.out.call, HR2.out, HA2.out⟩⟩
  case round =>
    obtain ⟨k, mk, out, hk, rfl, HW⟩ := hrel
    clear HR2 HA2 HD2
    obtain ⟨hO, hD, hR, hol, hfi, hB, hAw⟩ := HW.out
    have b4 := hB.cell 4
    simp at b4
    have HLO : Hid (∀ (u : World) (lv : Value) (o : List Tn), OwnK 2 u (g6 + 1) 43 (fun q => q < g6 + 1) TnC lv o → OwnK 2 u w.heap.size 43 (fun q => q < w.heap.size) TnC lv o) := Lib.hid fun u lv o h => (h.less fun q hq => .inl (by have := HG6.out; omega)).lower (by have := HG6.out; omega)
    by_cases hlt : k < n
    · obtain ⟨gk1, hgk1⟩ : ∃ x, gk = x + 1 := ⟨gk - 1, by omega⟩
      have hP := DPage_any id k wr hD (hfi.ok (by omega)) (by have := hfi.calls1; omega) hid (by omega)
      have hpl := pgR_len mk id k
      have HF : Hid ((pgR mk id k).1 ≠ 0 → toR id n 0 (callS m) [] = (((pgR mk id k).1, out), callS mk)) := Lib.hid fun h => by
        rw [hR, hgk1, toR_fail h]
      have HNO : Hid ((pgR mk id k).1 = 0 → (toP out (pgR mk id k).2).1 = false → toR id n 0 (callS m) [] = ((2, (toP out (pgR mk id k).2).2), callS mk)) := Lib.hid fun h h2 => by
        rw [hR, hgk1, toR_no h h2]
      have HON : Hid ((pgR mk id k).1 = 0 → (toP out (pgR mk id k).2).1 = true → toR id n 0 (callS m) [] = toR id gk1 (k + 1) (callS mk) (toP out (pgR mk id k).2).2) := Lib.hid fun h h2 => by
        rw [hR, hgk1, toR_on h h2]
      generalize pgR mk id k = pr at hP hpl HF HNO HON
      obtain ⟨pc, p⟩ := pr
      simp only at hP hpl
      have HFI : Hid ((callS mk).fine (N + 1 + (k + 1))) := Lib.hid hfi.call
      have hgw := hB.lt
      clear hO hD hR hfi hB hAw
      go_wp2_with fail
      refine hP.mono ?_
      rintro e w3 ⟨y, B, rfl, hD3, hA3, hB3, hO3⟩
      have hwr := HW.out.2.2.2.2.2.2.size
      have hgs := HG.out
      have hg6s := HG6.out
      have HOut : Hid (OwnK 2 w3 (g6 + 1) 43 (fun q => q < g6 + 1) TnC u8 out) := Lib.hid (HW.out.1.apt hA3 (fun q _ hq => by rw [hq]; omega) (fun q hq e => by have := (HW.out.1.lt q hq).1; omega) fun q hq => .inl hq)
      have HR3 : Hid (Blk w3 g6 62 #[.int .u64 mi, .int .i64 ml, .int .i64 ms, .int .i64 mn, .int .i64 (n : Int), .int .i64 mt]) := Lib.hid ((hA3.block g6 hgw fun e => by omega).trans HW.out.2.2.2.2.2.1)
      have HA3 := Lib.hid (HW.out.2.2.2.2.2.2.trans hA3)
      have HD3 := Lib.hid hD3
      have hvlt : ∀ q, u8.ownBlock = some q → q < wr.heap.size := fun q hq => (HW.out.1.lt q hq).2
      by_cases hpc : pc = 0
      rotate_left
      · have hbe := errN hpc
        have HE : Hid (tlR m id = ((pc, out), callS mk)) := Lib.hid (by rw [HRE.out, HF.out hpc])
        clear hP hO3 hD3 hA3 HW HRE HF HNO HON b4 hvlt
        go_wp2_with fail
        go_ret2
        rw [HE.out]
        exact ⟨_, rfl, HD3.out, HFI.out.more (by omega), HLO.out _ _ _ HOut.out, HA3.out⟩
      subst hpc
      have HNO2 := Lib.hid (HNO.out rfl)
      have HON2 := Lib.hid (HON.out rfl)
      have HO3 := Lib.hid hO3
      obtain ⟨Ay, cy, hy, hcy1, hcy2⟩ := hO3.ts.form
      subst hy
      have HVB3 : Hid (∀ q, u8.ownBlock = some q → q < B) := Lib.hid fun q hq => Nat.lt_of_lt_of_le (hvlt q hq) hB3
      have HGB : Hid (g6 + 1 ≤ B) := Lib.hid (by omega)
      clear hP hO3 hD3 hA3 HW HF HNO HON b4 hvlt
      go_wp2_with fail
      go_loopg [8, 12] p.length (fun gj lv jv wr2 => ∃ (j : Nat) (o2 : List Tn), j + gj = p.length ∧ jv = .int .i64 (j : Int) ∧ Hid (OwnK 2 wr2 (g6 + 1) 43 (fun q => q < g6 + 1) TnC lv o2 ∧ DS wr2 base g v (callS mk) ∧ toP out p = toP o2 (p.drop j) ∧ o2.length ≤ 64 * k + j ∧ Blk wr2 g6 62 #[.int .u64 mi, .int .i64 ml, .int .i64 ms, .int .i64 mn, .int .i64 (n : Int), .int .i64 mt] ∧ Apt (fun q => q = g) w wr2 ∧ Apt (fun q => q < B) w3 wr2 ∧ ∀ q, lv.ownBlock = some q → q < B ∨ w3.heap.size ≤ q))
      case atStart => exact ⟨0, out, by omega, rfl, Lib.hid ⟨HOut.out, HD3.out, rfl, by omega, HR3.out, HA3.out, Apt.refl _ _, fun q hq => .inl (HVB3.out q hq)⟩⟩
      case round =>
        obtain ⟨j, o2, hj, rfl, HV⟩ := hrel
        clear HOut HR3 HA3 HD3
        have hO6 := HV.out.1
        have HO6 := Lib.hid hO6
        have HD6 := Lib.hid HV.out.2.1
        have HTQ := Lib.hid HV.out.2.2.1
        have ho2 := HV.out.2.2.2.1
        have HR6 := Lib.hid HV.out.2.2.2.2.1
        have HA6 := Lib.hid HV.out.2.2.2.2.2.1
        have HQ6 := Lib.hid HV.out.2.2.2.2.2.2.1
        have HVV := Lib.hid HV.out.2.2.2.2.2.2.2
        obtain ⟨A2, c2, hv2, _, _⟩ := hO6.ts.form
        subst hv2
        clear HV
        by_cases hjl : j < p.length
        · obtain ⟨gj1, hgj1⟩ : ∃ x, gk = x + 1 := ⟨gk - 1, by omega⟩
          obtain ⟨t, ht⟩ : ∃ t, p[j]? = some t := ⟨_, List.getElem?_eq_getElem hjl⟩
          have hdr : p.drop j = t :: p.drop (j + 1) := by rw [List.drop_eq_getElem_cons hjl, (List.getElem?_eq_some_iff.1 ht).2]
          obtain ⟨gx, px, d, hAx, hgx, x0, x1, hd⟩ := HO3.out.trace ht
          subst hAx
          have hgB : ¬ gx < B := by
            have := (HO3.out.lt gx rfl).1
            omega
          obtain ⟨Ad, cd, rfl, _, _⟩ := hd.here.form
          have y0 := (World.cell?_of_block (a := ⟨gx, px + j * 2, none⟩) (HQ6.out.block gx hgx hgB)).trans x0
          have y1 := (World.cell?_of_block (a := ⟨gx, px + j * 2 + 1, none⟩) (HQ6.out.block gx hgx hgB)).trans x1
          have HK6 : Hid (Keep (fun q => q < g6 + 1 ∨ (Value.slice A2 o2.length c2).ownBlock = some q) (fun u => TnC u t [.int .u64 t.id, .slice Ad t.sp.length cd]) wr) := Lib.hid (by
            obtain ⟨xs, hx1, hx2⟩ := HO3.out
            obtain ⟨x, hx, hk⟩ := hx2.right ht
            obtain ⟨g', o', hA', _, hc'⟩ := hx1.lv.cells (by omega) hx
            obtain ⟨_, d', rfl, _⟩ := hk.here
            have e1 := hc' 1 _ rfl
            injection hA' with hA'
            injection hA' with e2 e3
            subst e2 e3
            rw [x1] at e1
            injection e1 with e1
            subst e1
            have hyo : ∀ q, (Value.slice (some ⟨gx, px, none⟩) p.length cy).ownBlock = some q → ¬ q < B := fun q hq => by
              have := (HO3.out.lt q hq).1
              omega
            have hk2 : Keep (fun q => q < B) (fun u => TnC u t [.int .u64 t.id, .slice Ad t.sp.length cd]) w3 := fun u hu => hk u (hu.mono fun q _ hq => .inl hq)
            exact hk2.go HQ6.out fun q hq => by
              rcases hq with hq | hq
              · exact .inl (by have := HGB.out; omega)
              · exact HVV.out q hq)
          have a0 : (0 : Int) ≤ (j : Int) := by omega
          have a1 : (j : Int) < (p.length : Int) := by omega
          clear ht hd x0 x1 hgx hO6
          by_cases hn0 : o2.length = 0
          · have he : o2 = [] := List.eq_nil_of_length_eq_zero hn0
            have HTP : Hid (toP out p = toP (o2 ++ [t]) (p.drop (j + 1))) := Lib.hid (by rw [HTQ.out, hdr, toP_on (by rw [he]; rfl)])
            have hgt : ¬ 0 < o2.length := by omega
            clear hdr HTQ he hn0
            have hb7 : Below wr.heap.size wr (wr.alloc (.cells #[.int .u64 t.id, .slice Ad t.sp.length cd] 43)) := (Below.refl _ _).alloc (Nat.le_refl _) _
            have HO7 := Lib.hid (HO6.out.below hb7)
            have HK7 := Lib.hid (HK6.out.below hb7)
            have HD7 := Lib.hid (HD6.out.below hb7)
            have HR7 := Lib.hid (HR6.out.below hb7 HR6.out.lt)
            have HA7 := Lib.hid (HA6.out.trans (Apt.of_below hb7))
            have HQ7 := Lib.hid (HQ6.out.trans (Apt.of_below hb7))
            have HZ7 : Hid (w3.heap.size ≤ (wr.alloc (.cells #[.int .u64 t.id, .slice Ad t.sp.length cd] 43)).heap.size) := Lib.hid HQ7.out.size
            have HLV := Lib.hid (Lv.lit1 wr [.int .u64 t.id, .slice Ad t.sp.length cd] 43)
            have HLN : Hid (o2.length ≤ 1000000000) := Lib.hid (by omega)
            have HSZ : Hid (g6 + 1 ≤ (wr.alloc (.cells #[.int .u64 t.id, .slice Ad t.sp.length cd] 43)).heap.size) := Lib.hid (by have h1 := HR7.out.lt; omega)
            clear hb7 HO6 HK6 HD6 HR6 HA6 HQ6
            go_wp2_with (at_builtin; refine wpList_append_K trT rfl _ _ rfl rfl HO7.out rfl HLV.out HK7.out (by simp [Value.oneCell']) HLN.out (by decide) HSZ.out ?_)
            intro v' w8 hO8 hg8 hv8
            have hlo : ∀ q, (Value.slice A2 o2.length c2).ownBlock = some q → g6 < q := fun q hq => (HO7.out.lt q hq).1
            have hNF : ∀ q, (Value.slice A2 o2.length c2).ownBlock = some q → ¬ yF g v q ∧ q ≠ g6 ∧ w.heap.size ≤ q := fun q hq => by
              have h1 := hlo q hq
              have h2 := HG6.out
              have h3 := HG.out
              refine ⟨fun h => ?_, by omega, by omega⟩
              rcases h with h | h
              · omega
              · have := HVB.out q h
                omega
            have HO8 := Lib.hid hO8
            have HD8 := Lib.hid (HD7.out.grown14 hg8 fun q hq => (hNF q hq).1)
            have HR8 := Lib.hid (HR7.out.grown hg8 fun e => (hNF g6 e.symm).2.1 rfl)
            have HA8 : Hid (Apt (fun q => q = g) w w8) := Lib.hid ⟨hg8.os.trans HA7.out.os, hg8.tape.trans HA7.out.tape, hg8.output.trans HA7.out.output, Nat.le_trans HA7.out.size hg8.size, fun q hq hF => (hg8.block q (Nat.lt_of_lt_of_le hq HA7.out.size) fun e => by have := (hNF q e.symm).2.2; omega).trans (HA7.out.block q hq hF)⟩
            have HQ8 : Hid (Apt (fun q => q < B) w3 w8) := Lib.hid ⟨hg8.os.trans HQ7.out.os, hg8.tape.trans HQ7.out.tape, hg8.output.trans HQ7.out.output, Nat.le_trans HQ7.out.size hg8.size, fun q hq hF => (hg8.block q (Nat.lt_of_lt_of_le hq HQ7.out.size) fun e => by
              rcases HVV.out q e.symm with h | h
              · exact hF h
              · omega).trans (HQ7.out.block q hq hF)⟩
            have HV8 : Hid (∀ q, v'.ownBlock = some q → q < B ∨ w3.heap.size ≤ q) := Lib.hid fun q hq => by
              rcases hv8 with h | h
              · exact HVV.out q (h ▸ hq)
              · rw [h] at hq
                have h1 := Option.some.inj hq
                have h2 := HZ7.out
                try simp only [World.size_alloc] at h1 h2
                exact .inr (by omega)
            clear hO8 hg8 hv8 hlo hNF HO7 HK7 HD7 HR7 HA7 HQ7 HLV HSZ HLN
            go_wp2_with fail
            go_roundg gj1
            case measure => omega
            case rel => exact ⟨j + 1, o2 ++ [t], by omega, by go_num, Lib.hid ⟨HO8.out, HD8.out, HTP.out, by rw [List.length_append, List.length_singleton]; omega, HR8.out, HA8.out, HQ8.out, HV8.out⟩⟩
          · obtain ⟨u, hu⟩ : ∃ u, o2[o2.length - 1]? = some u := ⟨_, List.getElem?_eq_getElem (by omega)⟩
            obtain ⟨gz, pz, dz, hAz, hgz, z0, _, _⟩ := Ts.cells HO6.out.ts hu
            subst hAz
            obtain ⟨nn, hnn⟩ : ∃ nn, o2.length = nn + 1 := ⟨o2.length - 1, by omega⟩
            have hup : upT o2 t = decide (u.id < t.id) := by
              rw [upT, List.getLast?_eq_getElem?, hu]
            have hgt : 0 < o2.length := by omega
            have hsub : (o2.length : Int) - 1 = (nn : Int) := by omega
            have hob : o2.length ≤ 20000 := by omega
            have c0 : (0 : Int) ≤ (nn : Int) := by omega
            have c1 : (nn : Int) < (o2.length : Int) := by omega
            rw [show o2.length - 1 = nn by omega] at z0
            by_cases hle : t.id ≤ u.id
            · have HE : Hid (tlR m id = ((2, o2), callS mk)) := Lib.hid (by
                have hf : toP out p = (false, o2) := by rw [HTQ.out, hdr, toP_no (by rw [hup]; simp; omega)]
                rw [HRE.out, HNO2.out (by rw [hf]), hf])
              have hlx : decide (t.id ≤ u.id) = true := decide_eq_true hle
              clear hdr HTQ hup HK6 HQ6 hnn hu
              go_wp2_with fail
              go_quiet (fail)
              go_wp2_with fail
              go_ret2
              rw [HE.out]
              exact ⟨_, rfl, HD6.out.below (below_drewN (Below.refl _ _) _), HFI.out.more (by omega), HLO.out _ _ _ (HO6.out.below (below_drewN (Below.refl _ _) _)), HA6.out.trans (Apt.of_below (below_drewN (Below.refl _ _) _))⟩
            · have HTP : Hid (toP out p = toP (o2 ++ [t]) (p.drop (j + 1))) := Lib.hid (by rw [HTQ.out, hdr, toP_on (by rw [hup]; simp; omega)])
              have hlx : decide (t.id ≤ u.id) = false := decide_eq_false (by omega)
              clear hdr HTQ hup hnn hu
              go_wp2_with fail
              go_quiet (fail)
              have hbq := below_drewN (Below.refl wr.heap.size wr) nq
              replace HO6 := Lib.hid (HO6.out.below hbq)
              replace HD6 := Lib.hid (HD6.out.below hbq)
              replace HR6 := Lib.hid (HR6.out.below hbq HR6.out.lt)
              replace HA6 := Lib.hid (HA6.out.trans (Apt.of_below hbq))
              replace HQ6 := Lib.hid (HQ6.out.trans (Apt.of_below hbq))
              replace HK6 := Lib.hid (HK6.out.below hbq)
              replace y0 := (hbq.cell (World.block_lt_of_cell? wr _ y0)).trans y0
              replace y1 := (hbq.cell (World.block_lt_of_cell? wr _ y1)).trans y1
              clear hbq z0 hgz
              revert HO6 HD6 HR6 HA6 HQ6 HK6 y0 y1
              generalize wr.drewN nq = wq
              intro HO6 HD6 HR6 HA6 HQ6 HK6 y0 y1
              have hb7 : Below wq.heap.size wq (wq.alloc (.cells #[.int .u64 t.id, .slice Ad t.sp.length cd] 43)) := (Below.refl _ _).alloc (Nat.le_refl _) _
              have HO7 := Lib.hid (HO6.out.below hb7)
              have HK7 := Lib.hid (HK6.out.below hb7)
              have HD7 := Lib.hid (HD6.out.below hb7)
              have HR7 := Lib.hid (HR6.out.below hb7 HR6.out.lt)
              have HA7 := Lib.hid (HA6.out.trans (Apt.of_below hb7))
              have HQ7 := Lib.hid (HQ6.out.trans (Apt.of_below hb7))
              have HZ7 : Hid (w3.heap.size ≤ (wq.alloc (.cells #[.int .u64 t.id, .slice Ad t.sp.length cd] 43)).heap.size) := Lib.hid HQ7.out.size
              have HLV := Lib.hid (Lv.lit1 wq [.int .u64 t.id, .slice Ad t.sp.length cd] 43)
              have HLN : Hid (o2.length ≤ 1000000000) := Lib.hid (by omega)
              have HSZ : Hid (g6 + 1 ≤ (wq.alloc (.cells #[.int .u64 t.id, .slice Ad t.sp.length cd] 43)).heap.size) := Lib.hid (by have h1 := HR7.out.lt; omega)
              clear hb7 HO6 HK6 HD6 HR6 HA6 HQ6
              go_wp2_with (at_builtin; refine wpList_append_K trT rfl _ _ rfl rfl HO7.out rfl HLV.out HK7.out (by simp [Value.oneCell']) HLN.out (by decide) HSZ.out ?_)
              intro v' w8 hO8 hg8 hv8
              have hlo : ∀ q, (Value.slice (some ⟨gz, pz, none⟩) o2.length c2).ownBlock = some q → g6 < q := fun q hq => (HO7.out.lt q hq).1
              have hNF : ∀ q, (Value.slice (some ⟨gz, pz, none⟩) o2.length c2).ownBlock = some q → ¬ yF g v q ∧ q ≠ g6 ∧ w.heap.size ≤ q := fun q hq => by
                have h1 := hlo q hq
                have h2 := HG6.out
                have h3 := HG.out
                refine ⟨fun h => ?_, by omega, by omega⟩
                rcases h with h | h
                · omega
                · have := HVB.out q h
                  omega
              have HO8 := Lib.hid hO8
              have HD8 := Lib.hid (HD7.out.grown14 hg8 fun q hq => (hNF q hq).1)
              have HR8 := Lib.hid (HR7.out.grown hg8 fun e => (hNF g6 e.symm).2.1 rfl)
              have HA8 : Hid (Apt (fun q => q = g) w w8) := Lib.hid ⟨hg8.os.trans HA7.out.os, hg8.tape.trans HA7.out.tape, hg8.output.trans HA7.out.output, Nat.le_trans HA7.out.size hg8.size, fun q hq hF => (hg8.block q (Nat.lt_of_lt_of_le hq HA7.out.size) fun e => by have := (hNF q e.symm).2.2; omega).trans (HA7.out.block q hq hF)⟩
              have HQ8 : Hid (Apt (fun q => q < B) w3 w8) := Lib.hid ⟨hg8.os.trans HQ7.out.os, hg8.tape.trans HQ7.out.tape, hg8.output.trans HQ7.out.output, Nat.le_trans HQ7.out.size hg8.size, fun q hq hF => (hg8.block q (Nat.lt_of_lt_of_le hq HQ7.out.size) fun e => by
                rcases HVV.out q e.symm with h | h
                · exact hF h
                · omega).trans (HQ7.out.block q hq hF)⟩
              have HV8 : Hid (∀ q, v'.ownBlock = some q → q < B ∨ w3.heap.size ≤ q) := Lib.hid fun q hq => by
                rcases hv8 with h | h
                · exact HVV.out q (h ▸ hq)
                · rw [h] at hq
                  have h1 := Option.some.inj hq
                  have h2 := HZ7.out
                  try simp only [World.size_alloc] at h1 h2
                  exact .inr (by omega)
              clear hO8 hg8 hv8 hlo hNF HO7 HK7 HD7 HR7 HA7 HQ7 HLV HSZ HLN
              go_wp2_with fail
              go_roundg gj1
              case measure => omega
              case rel => exact ⟨j + 1, o2 ++ [t], by omega, by go_num, Lib.hid ⟨HO8.out, HD8.out, HTP.out, by rw [List.length_append, List.length_singleton]; omega, HR8.out, HA8.out, HQ8.out, HV8.out⟩⟩
        · have hje : j = p.length := by omega
          have HTP : Hid (toP out p = (true, o2)) := Lib.hid (by rw [HTQ.out, hje, List.drop_length]; rfl)
          have HON3 : Hid (toR id n 0 (callS m) [] = toR id gk1 (k + 1) (callS mk) o2) := Lib.hid (by rw [HON2.out (by rw [HTP.out]), HTP.out])
          clear HTQ
          go_wp2_with fail
          go_roundg gk1
          case measure => omega
          case rel => exact ⟨k + 1, callS mk, o2, by omega, by go_num, Lib.hid ⟨HO6.out, HD6.out, HON3.out, by omega, HFI.out, HR6.out, HA6.out⟩⟩
    · have hkn : k = n := by omega
      have hg0 : gk = 0 := by omega
      subst hkn
      subst hg0
      have HE : Hid (tlR m id = ((0, out), mk)) := Lib.hid (by rw [HRE.out, hR]; rfl)
      have HD := Lib.hid hD
      have HO := Lib.hid hO
      have HA := Lib.hid hAw
      have HFI := Lib.hid (hfi.more (show N + 1 + k ≤ N + 201 by omega))
      clear HW hO hD hR hol hfi hB hAw HRE
      go_wp2_with fail
      go_ret2
      rw [HE.out]
      exact ⟨_, rfl, HD.out, HFI.out, HLO.out _ _ _ HO.out, HA.out⟩

structure ScanN (PSc : World → (Nat → Prop) → Nat → Nat → List Tn → Int → Sm → Bool → Prop) : Prop where
  thing : ∀ g c rest code mf en, Thing fun w F => PSc w F g c rest code mf en
  open_nil : ∀ {w : World} (id : Nat), id < 18446744073709551616 → Ld w → Calls Tryz.prog 10 #[.pointer none, .int .u64 (id : Int)] w fun e w' => e = .returned (.tuple #[.pointer none, code 1]) ∧ Below w.heap.size w w'
  open_no : ∀ {w : World} {F : Nat → Prop} {g : Nat} {m : Sm} {N : Nat} (id : Nat), PSt w F g m → m.fine N → N ≤ 10000 → id < 18446744073709551616 → Keep F Ld w → (meR m id).1 ≠ 0 →
    Calls Tryz.prog 10 #[.pointer (some ⟨g, 0, none⟩), .int .u64 (id : Int)] w fun e w' => e = .returned (.tuple #[.pointer none, errV (meR m id).1]) ∧ ∃ F', PSt w' F' g (callS m) ∧ Goes w F w' F'
  open_ok : ∀ {w : World} {F : Nat → Prop} {g : Nat} {m : Sm} {N : Nat} (id : Nat), PSt w F g m → m.fine N → N ≤ 10000 → id < 18446744073709551616 → Keep F Ld w → (meR m id).1 = 0 →
    Calls Tryz.prog 10 #[.pointer (some ⟨g, 0, none⟩), .int .u64 (id : Int)] w fun e w' => ∃ (c : Nat) (F' : Nat → Prop), e = .returned (.tuple #[.pointer (some ⟨c, 0, none⟩), .nilIface]) ∧ PSc w' F' g c (tlR m id).1.2 (tlR m id).1.1 (tlR m id).2 false ∧ Goes w F w' F'
  next_on : ∀ {w : World} {F : Nat → Prop} {g c : Nat} {t : Tn} {rest : List Tn} {cd : Int} {mf : Sm}, PSc w F g c (t :: rest) cd mf false → Keep F Ld w →
    Calls Tryz.prog 13 #[.pointer (some ⟨c, 0, none⟩)] w fun e w' => ∃ (d : Value) (F' : Nat → Prop), e = .returned (.tuple #[.agg #[.int .u64 t.id, d], .bool true, .nilIface]) ∧ PSc w' F' g c rest cd mf false ∧ Keep (fun q => ¬ F' q) (fun u => Ss u d t.sp) w' ∧ (0 ≤ t.id ∧ t.id ≤ 18446744073709551615) ∧ Goes w F w' F'
  next_end : ∀ {w : World} {F : Nat → Prop} {g c : Nat} {cd : Int} {mf : Sm} {en : Bool}, PSc w F g c [] cd mf en → Keep F Ld w →
    Calls Tryz.prog 13 #[.pointer (some ⟨c, 0, none⟩)] w fun e w' => ∃ (F' : Nat → Prop), e = .returned (.tuple #[.agg #[.int .u64 0, .slice none 0 0], .bool false, errV cd]) ∧ PSc w' F' g c [] cd mf true ∧ Goes w F w' F'
  done_no : ∀ {w : World} {F : Nat → Prop} {g c : Nat} {t : Tn} {rest : List Tn} {cd : Int} {mf : Sm}, PSc w F g c (t :: rest) cd mf false →
    Calls Tryz.prog 12 #[.pointer (some ⟨c, 0, none⟩)] w fun e w' => e = .returned (.bool false) ∧ Below w.heap.size w w'
  done_yes : ∀ {w : World} {F : Nat → Prop} {g c : Nat} {cd : Int} {mf : Sm}, PSc w F g c [] cd mf true →
    Calls Tryz.prog 12 #[.pointer (some ⟨c, 0, none⟩)] w fun e w' => e = .returned (.bool true) ∧ Below w.heap.size w w'
  store : ∀ {w : World} {F : Nat → Prop} {g c : Nat} {cd : Int} {mf : Sm}, PSc w F g c [] cd mf true → ∃ F', PSt w F' g mf ∧ ∀ q, F' q → F q
structure ScanK (PSc : World → (Nat → Prop) → Nat → Nat → List Tn → Int → Sm → Bool → Prop) (PSq : World → (Nat → Prop) → Nat → Sm → Value → Nat → Prop) : Prop extends ScanN PSc where
  thing_q : ∀ g m fv id, Thing fun w F => PSq w F g m fv id
  each : ∀ {w : World} {F : Nat → Prop} {g : Nat} {m : Sm} (id : Nat), PSt w F g m → id < 18446744073709551616 →
    Calls Tryz.prog 15 #[.pointer (some ⟨g, 0, none⟩), .int .u64 (id : Int)] w fun e w' => ∃ (fv : Value) (F' : Nat → Prop), e = .returned fv ∧ PSq w' F' g m fv id ∧ Goes w F w' F'
  seq : ∀ {w : World} {F : Nat → Prop} {g : Nat} {m : Sm} {fv : Value} {id : Nat}, PSq w F g m fv id → ∃ (gf : Nat) (lb : Array Value), fv = .func (.func gf) #[] lb ∧ (∀ args u, (callFunc gf args).run Tryz.prog u = .ok (.enter gf args) u) ∧
    ∀ (N l : Nat) (J Jx : List Tn → (Nat → Prop) → World → Prop), m.fine N → N ≤ 10000 → id < 18446744073709551616 →
      (∀ pre F W F' W', J pre F W → Goes W F W' F' → (∀ q, F' q → q < W'.heap.size) → J pre F' W') → (∀ pre F W F' W', Jx pre F W → Goes W F W' F' → (∀ q, F' q → q < W'.heap.size) → Jx pre F' W') → (∀ pre F W, J pre F W → Keep F Ld W) →
      (∀ pre t d F W, J pre F W → (tlR m id).1.2[pre.length]? = some t → Keep (fun q => ¬ F q) (fun u => Ss u d t.sp) W → (0 ≤ t.id ∧ t.id ≤ 18446744073709551615) → YieldAt Fence.wide 1 Tryz.prog l #[.int .u64 t.id, d] W fun e W' => Apt (fun q => ¬ F q) W W' ∧ ((e = .returned (.bool true) ∧ J (pre ++ [t]) F W') ∨ (e = .returned (.bool false) ∧ Jx (pre ++ [t]) F W'))) →
      J [] F w → Calls Tryz.prog gf (#[.func (.yield l) #[] #[]] ++ lb) w fun e W' => (∃ v, e = .returned v) ∧ ∃ F', J (tlR m id).1.2 F' W' ∨ ∃ pre, pre <+: (tlR m id).1.2 ∧ Jx pre F' W'

end Go.Proofs.YtfccfnbmmgfgcaaGreatDoor

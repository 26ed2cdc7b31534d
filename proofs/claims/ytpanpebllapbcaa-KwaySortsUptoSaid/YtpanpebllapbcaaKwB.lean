/-
  SLICES OF SLICES ('Sls'); WHAT THE PROGRAM's kway.Sorted IS TO TELL of numbers ('SortedOn'); tankardlaw10.KwaySorts, walked over that. Conditions: what each says.
-/
import Derived.Test.YtpanpebllapbcaaKwA
import Derived.Test.YtpanpebllapbcaaHpB
import Derived.Test.YtpanpebllapbcaaKee
import Derived.Deep.DeepCutAuto
namespace Go.Proofs.Ytpanpebllapbcaa
open Go.RowKit
set_option maxRecDepth 100000

/-- the value v is a slice of values, each of which is P -/
def Sls {β : Type} (P : World → β → Value → Prop) (w : World) (v : Value) (l : List β) : Prop := ∃ xs, Lv 1 w v xs ∧ Two (fun r x => ∃ d, x = [d] ∧ P w r d) l xs
section
variable {β : Type} {P : World → β → Value → Prop} {w w' : World} {v : Value} {l : List β}
theorem Sls.form (h : Sls P w v l) : ∃ A c, v = .slice A l.length c ∧ l.length ≤ c ∧ c ≤ 9223372036854775807 := by
  obtain ⟨xs, h1, h2⟩ := h
  obtain ⟨A, c, hv, h3, h4⟩ := h1.form
  rw [← h2.len] at hv h3
  exact ⟨A, c, hv, h3, h4⟩
theorem Sls.cell {A : Option Addr} {n c : Nat} (h : Sls P w (.slice A n c) l) {i : Nat} {r : β} (hi : l[i]? = some r) : ∃ g o d, A = some ⟨g, o, none⟩ ∧ g < w.heap.size ∧ w.cell? ⟨g, o + i, none⟩ = some d ∧ P w r d := by
  obtain ⟨xs, h1, h2⟩ := h
  obtain ⟨x, hx, d, rfl, hd⟩ := h2.right hi
  obtain ⟨g, o, hA, hg, hc⟩ := h1.cells (by omega) hx
  exact ⟨g, o, d, hA, hg, by simpa using hc 0 _ rfl, hd⟩
theorem Sls.below (hP : ∀ {r d}, P w r d → P w' r d) (h : Sls P w v l) (hb : Below w.heap.size w w') : Sls P w' v l := by
  obtain ⟨xs, h1, h2⟩ := h
  exact ⟨xs, h1.below hb, h2.mono fun _ _ ⟨d, e, hd⟩ => ⟨d, e, hP hd⟩⟩
end

def onC (o : On) : List Value := [.int .i64 o.n, .int .i64 o.row, .int .i64 o.at_]
theorem onT : ElemT Try.prog 41 44 3 24 := ⟨Try.underlying41, by omega, by
  refine ⟨_, _, rfl, rfl, rfl, rfl, ?_⟩
  rfl⟩
theorem onsT : ElemT Try.prog 40 41 1 24 := ⟨Try.underlying40, by omega, by
  refine ⟨_, _, rfl, rfl, rfl, rfl, ?_⟩
  rfl⟩
/-- a slice of numbers -/
def IntsV (w : World) (r : List Int) (d : Value) : Prop := Lv 1 w d (r.map iC)
/-- a slice of numbers with their rows and places -/
def OnV (w : World) (r : List On) (d : Value) : Prop := Lv 3 w d (r.map onC)
def OnE (w : World) (r : List On) (x : List Value) : Prop := ∃ d, x = [d] ∧ OnV w r d
theorem OwnK.sls {w : World} {base : Nat} {e : TypeId} {bad : Nat → Prop} {v : Value} {l : List (List On)} (h : OwnK 1 w base e bad OnE v l) : Sls OnV w v l := h.lv
abbrev SortedOn : Prop := ∀ {w : World} {v : Value} {rows : List (List On)}, Sls OnV w v rows → (∀ r ∈ rows, r.Pairwise fun a b => onR b a = false) → rows.flatten.length ≤ 1000 → rows.length ≤ 1000 →
  Calls Try.prog 13 #[v, .func (.func 14) #[] #[]] w fun e w' => ∃ s out, e = .returned s ∧ OwnL 3 w' w.heap.size 44 s (out.map onC) ∧ Merged onR rows out ∧ Below w.heap.size w w'
theorem ints_cell {w : World} {A : Option Addr} {n c : Nat} {r : List Int} (h : IntsV w r (.slice A n c)) {k : Nat} {x : Int} (hk : r[k]? = some x) : ∃ g o, A = some ⟨g, o, none⟩ ∧ g < w.heap.size ∧ w.cell? ⟨g, o + k, none⟩ = some (.int .i64 x) := by
  obtain ⟨g, o, hA, hg, hc⟩ := Lv.cells h (by omega) (i := k) (x := iC x) (by rw [List.getElem?_map, hk]; rfl)
  exact ⟨g, o, hA, hg, by simpa using hc 0 _ rfl⟩
theorem ints_form {w : World} {r : List Int} {d : Value} (h : IntsV w r d) : ∃ A c, d = .slice A r.length c ∧ r.length ≤ c ∧ c ≤ 9223372036854775807 := by
  obtain ⟨A, c, hv, h1, h2⟩ := Lv.form h
  rw [List.length_map] at hv h1
  exact ⟨A, c, hv, h1, h2⟩
theorem on_cell {w : World} {A : Option Addr} {n c : Nat} {r : List On} (h : OnV w r (.slice A n c)) {k : Nat} {x : On} (hk : r[k]? = some x) : ∃ g o, A = some ⟨g, o, none⟩ ∧ g < w.heap.size ∧ w.cell? ⟨g, o + k * 3, none⟩ = some (.int .i64 x.n) ∧ w.cell? ⟨g, o + k * 3 + 1, none⟩ = some (.int .i64 x.row) ∧ w.cell? ⟨g, o + k * 3 + 2, none⟩ = some (.int .i64 x.at_) := by
  obtain ⟨g, o, hA, hg, hc⟩ := Lv.cells h (by omega) (i := k) (x := onC x) (by rw [List.getElem?_map, hk]; rfl)
  exact ⟨g, o, hA, hg, by simpa using hc 0 _ rfl, hc 1 _ rfl, hc 2 _ rfl⟩
theorem on_form {w : World} {r : List On} {d : Value} (h : OnV w r d) : ∃ A c, d = .slice A r.length c ∧ r.length ≤ c ∧ c ≤ 9223372036854775807 := by
  obtain ⟨A, c, hv, h1, h2⟩ := Lv.form h
  rw [List.length_map] at hv h1
  exact ⟨A, c, hv, h1, h2⟩
theorem onC_one {y : List Value} {l : List On} (hy : y ∈ l.map onC) : ∀ u ∈ y, u.oneCell' = true := by
  obtain ⟨z, _, rfl⟩ := List.mem_map.1 hy
  simp [onC, Value.oneCell']

theorem kw_made (w : World) (k base : Nat) (e : TypeId) (hb : base ≤ w.heap.size) : OwnL k (w.alloc (.cells #[] e)) base e (.slice (some ⟨w.heap.size, 0, none⟩) 0 0) [] :=
  ⟨World.ownsRow_made w #[] 0 hb (by simp [maxLen]) (by simp), fun x hx => by cases hx⟩

set_option maxHeartbeats 6400000 in
theorem kwaySorts_any (hS : SortedOn) (hup : ∀ w : World, Calls Try.prog 6 #[] w fun e w' => e = .returned (.bool true) ∧ Below w.heap.size w w') (vl : Value) (L : List (List Int)) (w : World) (hl : Sls IntsV w vl L) (h1 : L.length ≤ 1048576) (h2 : L.flatten.length ≤ 1048576) :
    Calls Try.prog 4 #[vl] w fun e w' => e = .returned (.bool true) ∧ Below w.heap.size w w' := by
  have HS : Hid SortedOn := Lib.hid hS
  have HL := Lib.hid hl
  obtain ⟨A, c, rfl, hc1, hc2⟩ := hl.form
  have H2 := Lib.hid h2
  clear hl hS h2
  go_enter Try.func4, Try.ntmps4
  go_wp2_with fail
  refine (hup _).mono ?_
  rintro e w1 ⟨rfl, hb1⟩
  have HB1 := Lib.hid hb1
  clear hb1
  go_wp2_with fail
  go_loopg [4, 5, 6, 7, 8, 9, 10, 11] L.length (fun gk rv mv iv _ _ _ _ _ wr => ∃ (i m : Nat) (rr : List (List On)), i + gk = L.length ∧ iv = .int .i64 (i : Int) ∧ mv = .int .i64 (m : Int) ∧ m ≤ 1048576 ∧ Hid (OwnK 1 wr w.heap.size 41 (fun _ => False) OnE rv rr ∧ Below w.heap.size w wr ∧ rr.length = i ∧ AllTagd rr ∧ rr.flatten.length = m ∧ m = (L.take i).flatten.length))
  case atStart => exact ⟨0, 0, [], by omega, rfl, rfl, by omega, Lib.hid ⟨OwnK.nil _ _ _ _ _ _, HB1.out, rfl, fun i l h => by simp at h, rfl, rfl⟩⟩
  case round =>
    obtain ⟨i, m, rr, hik, rfl, rfl, hm0, HM⟩ := hrel
    obtain ⟨w2, hw2⟩ : ∃ u, u = wr := ⟨_, rfl⟩
    subst hw2
    obtain ⟨gi, hgi⟩ : ∃ u, u = gk := ⟨_, rfl⟩
    subst hgi
    by_cases hil : i < L.length
    · as_aux_lemma =>
        obtain ⟨gi1, hgi1⟩ : ∃ x, gi = x + 1 := ⟨gi - 1, by omega⟩
        obtain ⟨r, hr⟩ : ∃ r, L[i]? = some r := ⟨_, List.getElem?_eq_getElem hil⟩
        have HRI := Lib.hid hr
        obtain ⟨hft1, hft2⟩ := flat_take_next hr
        have hrl : r.length ≤ 1048576 := by
          have := H2.out
          omega
        have HSum : Hid ((L.take (i + 1)).flatten.length = (L.take i).flatten.length + r.length ∧ (L.take (i + 1)).flatten.length ≤ 1048576) := Lib.hid ⟨hft1, by have := H2.out; omega⟩
        clear hft1 hft2
        obtain ⟨g0, o0, d0, rfl, hg0, hc0, hd0⟩ := HL.out.cell hr
        obtain ⟨Ar, cr, rfl, hcr1, hcr2⟩ := ints_form hd0
        have HD0 := Lib.hid hd0
        have HB2 := Lib.hid HM.out.2.1
        have hk0 : ∀ u, Below w2.heap.size w2 u → u.cell? ⟨g0, o0 + i, none⟩ = some (.slice Ar r.length cr) := fun u hu => ((HB2.out.trans (hu.mono HB2.out.size)).cell (p := ⟨g0, o0 + i, none⟩) hg0).trans hc0
        have HK0 := Lib.hid hk0
        have a0 : (0 : Int) ≤ (i : Int) := by omega
        have a1 : (i : Int) < (L.length : Int) := by omega
        clear hr hd0 hk0 hc0
        go_wp2_with fail
        go_loopg [7, 8, 9, 10] r.length (fun gj v7 v8 _ _ wq => ∃ (k : Nat) (row : List On), k + gj = r.length ∧ v8 = .int .i64 (k : Int) ∧ Hid (OwnL 3 wq w2.heap.size 44 v7 (row.map onC) ∧ Below w2.heap.size w2 wq ∧ OnUp row ∧ row.length = k))
        case atStart => exact ⟨0, [], by omega, rfl, Lib.hid ⟨OwnL.nil _ _ _ _, Below.refl _ _, List.Pairwise.nil, rfl⟩⟩
        case round =>
          obtain ⟨k, row, hkj, rfl, HN⟩ := hrel
          obtain ⟨w3, hw3⟩ : ∃ u, u = wr := ⟨_, rfl⟩
          subst hw3
          obtain ⟨gj, hgj⟩ : ∃ u, u = gk := ⟨_, rfl⟩
          subst hgj
          have k0 := HK0.out w3 HN.out.2.1
          by_cases hkl : k < r.length
          · as_aux_lemma =>
              obtain ⟨gj1, hgj1⟩ : ∃ x, gj = x + 1 := ⟨gj - 1, by omega⟩
              obtain ⟨x, hx⟩ : ∃ x, r[k]? = some x := ⟨_, List.getElem?_eq_getElem hkl⟩
              obtain ⟨g1, o1, rfl, hg1, hc1'⟩ := ints_cell HD0.out hx
              have HB3 : Hid (Below w.heap.size w w3) := Lib.hid (HB2.out.trans (HN.out.2.1.mono HB2.out.size))
              have hx1 : ∀ u, Below w3.heap.size w3 u → u.cell? ⟨g0, o0 + i, none⟩ = some (.slice (some ⟨g1, o1, none⟩) r.length cr) ∧ u.cell? ⟨g1, o1 + k, none⟩ = some (.int .i64 x) := fun u hu =>
                ⟨HK0.out u (HN.out.2.1.trans (hu.mono HN.out.2.1.size)), ((HB3.out.trans (hu.mono HB3.out.size)).cell (p := ⟨g1, o1 + k, none⟩) hg1).trans hc1'⟩
              have HX1 := Lib.hid hx1
              have hrow := HN.out.2.2.2
              have hform := on_form HN.out.1.lv
              obtain ⟨A7, c7, rfl, hc71, hc72⟩ := hform
              rw [hrow] at HN hc71 ⊢
              have b0 : (0 : Int) ≤ (k : Int) := by omega
              have b1 : (k : Int) < (r.length : Int) := by omega
              clear hx hc1' hx1
              go_wp2_with fail
              go_loopg [9] k (fun gp v9 wz => ∃ (p : Nat), p ≤ gp ∧ v9 = .int .i64 (p : Int) ∧ p ≤ k ∧ Hid (Below w3.heap.size w3 wz ∧ ∀ (j : Nat) (y : On), row[j]? = some y → p ≤ j → x < y.n))
              case atStart => exact ⟨k, Nat.le_refl _, rfl, Nat.le_refl _, Lib.hid ⟨Below.refl _ _, fun j y hj hkj => by
                have := (List.getElem?_eq_some_iff.1 hj).1
                omega⟩⟩
              case round =>
                obtain ⟨p, hpg, rfl, hpk, HP⟩ := hrel
                obtain ⟨hx2, hx3⟩ := HX1.out wr HP.out.1
                by_cases hgo : 0 < p ∧ ∃ y, row[p - 1]? = some y ∧ x < y.n
                · obtain ⟨hp0, y, hy, hxy⟩ := hgo
                  obtain ⟨p1, rfl⟩ : ∃ q, p = q + 1 := ⟨p - 1, by omega⟩
                  rw [Nat.add_sub_cancel] at hy
                  obtain ⟨q7, o7, rfl, hq7, y0, _, _⟩ := on_cell (HN.out.1.lv.below HP.out.1) hy
                  have hpw : (0 : Int) ≤ (p1 : Int) := by omega
                  have hpw2 : (p1 : Int) < (k : Int) := by omega
                  have HX : Hid (∀ (j : Nat) (z : On), row[j]? = some z → p1 ≤ j → x < z.n) := Lib.hid fun j z hz hj => by
                    by_cases e : j = p1
                    · subst e
                      rw [hy] at hz
                      injection hz with hz
                      subst hz
                      exact hxy
                    · exact HP.out.2 j z hz (by omega)
                  clear hy
                  go_wp2_with fail
                  go_quiet (fail)
                  go_wp2_with fail
                  go_roundg p1
                  case measure => omega
                  case rel => exact ⟨p1, Nat.le_refl _, by go_num, by omega, Lib.hid ⟨below_drewN HP.out.1 _, HX.out⟩⟩
                · have HUp : Hid (OnUp (row.take p ++ [⟨x, 0, 0⟩] ++ row.drop p)) := Lib.hid (HN.out.2.2.1.put (x := ⟨x, 0, 0⟩) (fun j y hj hpj => Int.le_of_lt (HP.out.2 j y hj hpj)) (by
                    by_cases h0 : p = 0
                    · exact .inl h0
                    · refine .inr ?_
                      obtain ⟨y, hy⟩ : ∃ y, row[p - 1]? = some y := ⟨_, List.getElem?_eq_getElem (by omega)⟩
                      refine ⟨y, hy, ?_⟩
                      exact Int.not_lt.1 fun h => hgo ⟨by omega, y, hy, h⟩))
                  have hcases : (¬ 0 < p) ∨ (0 < p ∧ ∃ p1 q7 o7 yn, Hid (p = p1 + 1) ∧ A7 = some (⟨q7, o7, none⟩ : Addr) ∧ q7 < wr.heap.size ∧ wr.cell? ⟨q7, o7 + p1 * 3, none⟩ = some (.int .i64 yn) ∧ ¬ x < yn) := by
                    by_cases h0 : p = 0
                    · exact .inl (by omega)
                    · refine .inr ⟨by omega, ?_⟩
                      obtain ⟨p1, rfl⟩ : ∃ q, p = q + 1 := ⟨p - 1, by omega⟩
                      obtain ⟨y, hy⟩ : ∃ y, row[p1]? = some y := ⟨_, List.getElem?_eq_getElem (by omega)⟩
                      obtain ⟨q7, o7, hA, hq7, y0, _, _⟩ := on_cell (HN.out.1.lv.below HP.out.1) hy
                      exact ⟨p1, q7, o7, y.n, Lib.hid rfl, hA, hq7, y0, fun h => hgo ⟨by omega, y, by simpa using hy, h⟩⟩
                  have HT : Hid (∀ w4, Below wr.heap.size wr w4 → Below w3.heap.size w3 w4 ∧ (Lv 3 w4 (.slice A7 k c7) (row.map onC)) ∧ w4.cell? ⟨g0, o0 + i, none⟩ = some (.slice (some ⟨g1, o1, none⟩) r.length cr) ∧ w4.cell? ⟨g1, o1 + k, none⟩ = some (.int .i64 x)) := Lib.hid fun w4 h4 => by
                    have h5 := HP.out.1.trans (h4.mono HP.out.1.size)
                    exact ⟨h5, HN.out.1.lv.below h5, HX1.out w4 h5⟩
                  clear hgo hx2 hx3 k0
                  rcases hcases with hp0 | ⟨hp0, p1, q7, o7, yn, HPe, rfl, hq7, y0, hyx⟩
                  rotate_left
                  have hpw : (0 : Int) ≤ (p1 : Int) := by omega
                  have hpw2 : (p1 : Int) < (k : Int) := by have := HPe.out; omega
                  have hpw3 : IntKind.i64.wrap ((p : Int) - 1) = (p1 : Int) := by
                    have := HPe.out
                    rw [show (p : Int) - 1 = (p1 : Int) by omega]
                    exact IntWalk.i64_in _ (by omega)
                  have hpw4 : (p : Int) - 1 = (p1 : Int) := by have := HPe.out; omega
                  rotate_left
                  all_goals
                    obtain ⟨_, _, t1, t2⟩ := HT.out wr (Below.refl _ _)
                    go_wp2_with fail
                    go_quiet (fail)
                    have hb4 := below_drewN (Below.refl wr.heap.size wr) nq
                    generalize hw4 : wr.drewN nq = w4 at *
                    obtain ⟨hb34, hlv4, x2, x3⟩ := HT.out w4 hb4
                    obtain ⟨V, hsV, hV⟩ := hlv4.cut_upto onT rfl p (by omega)
                    obtain ⟨U, hsU, hU⟩ := hlv4.cut_from onT rfl p (by omega)
                    have ha5 : Below w4.heap.size w4 (w4.alloc (.cells #[] 44)) := (Below.refl _ _).alloc (Nat.le_refl _) _
                    have HA5 := Lib.hid ha5
                    have HV := Lib.hid hV
                    have HU := Lib.hid hU
                    have HT2 : Hid (∀ u, Below w4.heap.size w4 u → u.cell? ⟨g0, o0 + i, none⟩ = some (.slice (some ⟨g1, o1, none⟩) r.length cr) ∧ u.cell? ⟨g1, o1 + k, none⟩ = some (.int .i64 x)) := Lib.hid fun u hu => (HT.out u (hb4.trans (hu.mono hb4.size))).2.2
                    have HB34 := Lib.hid hb34
                    clear hV hU ha5 hw4 hlv4 hb4 hb34 x2 x3 t1 t2
                    go_wp2_with (at_builtin; refine wpList_append_elems _ onT rfl _ _ rfl w4.heap.size _ _ rfl (kw_made w4 3 w4.heap.size _ (Nat.le_refl _)) _ _ rfl (HV.out.below HA5.out) (fun y hy => onC_one (List.mem_of_mem_take hy)) (by simp only [maxLen, List.length_nil, List.length_take, List.length_map]; omega) (by simp only [List.length_nil, List.length_take, List.length_map]; omega) HA5.out.size ?_)
                    intro v6 w6 ho6 hg6 hv6
                    have hb6 : Below w4.heap.size w4 w6 := HA5.out.grown hg6 HA5.out.size (fun z hz => by injection hz with hz; exact Nat.le_of_eq hz)
                    obtain ⟨x2, x3⟩ := HT2.out w6 hb6
                    try rw [List.nil_append] at ho6
                    have HO6 := Lib.hid ho6
                    have HB6 := Lib.hid hb6
                    have ha7 : Below w6.heap.size w6 (w6.alloc (.cells #[.int .i64 x, .int .i64 0, .int .i64 0] 44)) := (Below.refl _ _).alloc (Nat.le_refl _) _
                    have HA7 := Lib.hid ha7
                    clear ho6 hg6 hv6 hb6 ha7
                    go_wp2_with (at_builtin; refine wpList_append_elems _ onT rfl _ _ rfl w4.heap.size v6 _ rfl (HO6.out.below HA7.out) _ _ rfl (Lv.lit1 w6 (onC ⟨x, 0, 0⟩) _) (fun y hy => onC_one (l := [⟨x, 0, 0⟩]) hy) (by simp only [maxLen, List.length_singleton, List.length_take, List.length_map]; omega) (by simp only [List.length_singleton, List.length_take, List.length_map]; omega) (Nat.le_trans HB6.out.size HA7.out.size) ?_)
                    intro v8 w8 ho8 hg8 hv8
                    have hb8 : Below w4.heap.size w4 w8 := (HB6.out.trans (HA7.out.mono HB6.out.size)).grown hg8 (Nat.le_trans HB6.out.size HA7.out.size) (fun z hz => HO6.out.ge z hz)
                    have HO8 := Lib.hid ho8
                    have HB8 := Lib.hid hb8
                    clear ho8 hg8 hv8 hb8 x2 x3
                    go_wp2_with (at_builtin; refine wpList_append_elems _ onT rfl _ _ rfl w4.heap.size v8 _ rfl HO8.out _ _ rfl (HU.out.below HB8.out) (fun y hy => onC_one (List.mem_of_mem_drop hy)) (by simp only [maxLen, List.length_singleton, List.length_append, List.length_take, List.length_drop, List.length_map]; omega) (by simp only [List.length_singleton, List.length_append, List.length_take, List.length_drop, List.length_map]; omega) HB8.out.size ?_)
                    intro v9 w9 ho9 hg9 hv9
                    have hb9 : Below w4.heap.size w4 w9 := HB8.out.grown hg9 HB8.out.size (fun z hz => HO8.out.ge z hz)
                    have ho9' : OwnL 3 w9 w4.heap.size 44 v9 ((row.take p ++ [(⟨x, 0, 0⟩ : On)] ++ row.drop p).map onC) := by simpa [List.map_take, List.map_drop] using ho9
                    have HO9 := Lib.hid (ho9'.lower (Nat.le_trans HN.out.2.1.size HB34.out.size))
                    have HB9 := Lib.hid (HN.out.2.1.trans ((HB34.out.trans (hb9.mono HB34.out.size)).mono HN.out.2.1.size))
                    clear ho9 ho9' hg9 hv9 hb9
                    go_wp2_with fail
                    go_roundg gj1
                    case measure => omega
                    case rel => exact ⟨k + 1, row.take p ++ [(⟨x, 0, 0⟩ : On)] ++ row.drop p, by omega, by go_num, Lib.hid ⟨HO9.out, HB9.out, HUp.out, by simp only [List.length_append, List.length_take, List.length_drop, List.length_singleton]; omega⟩⟩
          · as_aux_lemma =>
              have hkr : k = r.length := by omega
              have HKR := Lib.hid hkr
              have hrow := HN.out.2.2.2
              obtain ⟨A7, c7, rfl, hc71, hc72⟩ := on_form HN.out.1.lv
              rw [hrow] at HN hc71 ⊢
              have HTg : Hid (Tagd row (i : Int) 0 ∧ row.length = k) := Lib.hid ⟨⟨HN.out.2.2.1, fun j y _ h => absurd h (Nat.not_lt_zero _)⟩, hrow⟩
              have hm1 : m + k ≤ 1048576 := by
                have h3 := HSum.out
                have h4 := HM.out.2.2.2.2.2
                omega
              clear hkr hrow
              go_wp2_with fail
              go_loopg [11] k (fun gp v11 wz => ∃ (j : Nat) (row' : List On), j + gp = k ∧ v11 = .int .i64 (j : Int) ∧ Hid (OwnL 3 wz w2.heap.size 44 (.slice A7 k c7) (row'.map onC) ∧ Below w2.heap.size w2 wz ∧ Tagd row' (i : Int) j ∧ row'.length = k))
              case atStart => exact ⟨0, row, by omega, rfl, Lib.hid ⟨HN.out.1, HN.out.2.1, HTg.out.1, HTg.out.2⟩⟩
              case round =>
                obtain ⟨j, row', hjg, rfl, HP⟩ := hrel
                clear HTg HN
                by_cases hjk : j < k
                · obtain ⟨gp1, hgp1⟩ : ∃ x, gk = x + 1 := ⟨gk - 1, by omega⟩
                  obtain ⟨y, hy⟩ : ∃ y, row'[j]? = some y := ⟨_, List.getElem?_eq_getElem (by rw [HP.out.2.2.2]; exact hjk)⟩
                  have hY := Lib.hid hy
                  have hat := HP.out.1.at_
                  rcases hat with ⟨_, he⟩ | ⟨g7, c7', hve, _, _, hg7, hg7l, hfz⟩
                  · have : row' = [] := by simpa using he
                    rw [this] at hy
                    cases hy
                  · injection hve with e1 e2 e3
                    subst e1 e3
                    clear e2
                    obtain ⟨_, _, hA, _, y0, y1, y2⟩ := on_cell HP.out.1.lv hy
                    injection hA with hA
                    injection hA with e4 e5
                    subst e4 e5
                    have p1 := HP.out.1.put_ (i := j) (j := 1) (x := onC y) (by rw [List.getElem?_map, hy]; rfl) (by omega) (.int .i64 (i : Int))
                    have p2 := p1.1.put_ (i := j) (j := 2) (x := [.int .i64 y.n, .int .i64 (i : Int), .int .i64 y.at_]) (by
                      rw [List.getElem?_set_self (by rw [List.length_map, HP.out.2.2.2]; exact hjk)]
                      rfl) (by omega) (.int .i64 (j : Int))
                    have HO2 : Hid (OwnL 3 ((wr.setCell ⟨g7, j * 3 + 1, none⟩ (.int .i64 (i : Int))).setCell ⟨g7, j * 3 + 2, none⟩ (.int .i64 (j : Int))) w2.heap.size 44 (.slice (some ⟨g7, 0, none⟩) k c7) ((row'.set j ⟨y.n, i, j⟩).map onC)) := Lib.hid (by
                      have := p2.1
                      rw [List.set_set] at this
                      simpa [List.map_set, onC] using this)
                    have HB9 : Hid (Below w2.heap.size w2 ((wr.setCell ⟨g7, j * 3 + 1, none⟩ (.int .i64 (i : Int))).setCell ⟨g7, j * 3 + 2, none⟩ (.int .i64 (j : Int)))) := Lib.hid (HP.out.2.1.grown (grown_trans p1.2 p2.2) HP.out.2.1.size (fun z hz => by injection hz with hz; omega))
                    have f1 := hfz (j * 3 + 1)
                    have z2 : (wr.setCell ⟨g7, j * 3 + 1, none⟩ (.int .i64 (i : Int))).cell? ⟨g7, j * 3 + 2, none⟩ = some (.int .i64 y.at_) := by
                      obtain ⟨_, _, hA, _, hc⟩ := p1.1.lv.cells (by omega) (i := j) (x := [.int .i64 y.n, .int .i64 (i : Int), .int .i64 y.at_]) (by
                        rw [List.getElem?_set_self (by rw [List.length_map, HP.out.2.2.2]; exact hjk)]
                        rfl)
                      injection hA with hA
                      injection hA with e4 e5
                      subst e4 e5
                      simpa using hc 2 _ rfl
                    have f2 : (wr.setCell ⟨g7, j * 3 + 1, none⟩ (.int .i64 (i : Int))).frozen? ⟨g7, j * 3 + 2, none⟩ = false := by
                      rcases p1.1.at_ with ⟨h, _⟩ | ⟨_, _, hve, _, _, _, _, hf⟩
                      · cases h
                      · injection hve with e1 e2 e3
                        injection e1 with e1
                        injection e1 with e1
                        subst e1
                        exact hf _
                    have a2 : (0 : Int) ≤ (j : Int) := by omega
                    have a3 : (j : Int) < (k : Int) := by omega
                    clear hy p1 p2 hfz y0 y2
                    simp only [Nat.zero_add] at y1
                    go_wp2_with fail
                    go_roundg gp1
                    case measure => omega
                    case rel => exact ⟨j + 1, row'.set j ⟨y.n, i, j⟩, by omega, by go_num, Lib.hid ⟨HO2.out, HB9.out, HP.out.2.2.1.set hY.out, by rw [List.length_set]; exact HP.out.2.2.2⟩⟩
                · have hjk' : j = k := by omega
                  subst hjk'
                  have hlt := HM.out.1.lt
                  have ha5 : Below wr.heap.size wr (wr.alloc (.cells #[.slice A7 j c7] 41)) := (Below.refl _ _).alloc (Nat.le_refl _) _
                  have HA5 := Lib.hid ha5
                  have hK5 := (HM.out.1.below HP.out.2.1).below ha5
                  have HK5 := Lib.hid hK5
                  have hkeep : Keep (fun q => False ∨ (u4 : Value).ownBlock = some q) (fun u => OnE u row' [.slice A7 j c7]) (wr.alloc (.cells #[.slice A7 j c7] 41)) := fun u hu =>
                    ⟨_, rfl, (HP.out.1.lv.below HA5.out).apt hu fun _ q hq hbad => by
                      rcases hbad with h | h
                      · exact h
                      · have h1 := HP.out.1.ge q hq
                        have h2 := (hlt q h).2
                        omega⟩
                  have HKeep := Lib.hid hkeep
                  have hrl2 : rr.length ≤ 1048576 := by rw [HM.out.2.2.1]; omega
                  clear hlt hK5 hkeep ha5
                  go_wp2_with (at_builtin; refine wpList_append_K onsT rfl _ _ rfl rfl HK5.out rfl (Lv.lit1 wr [.slice A7 j c7] _) HKeep.out (by simp [Value.oneCell']) (by omega) (by decide) (Nat.le_trans HM.out.2.1.size (Nat.le_trans HP.out.2.1.size HA5.out.size)) ?_)
                  intro v9 w9 ho9 hg9 hv9
                  have hb9 : Below w.heap.size w w9 := ((HM.out.2.1.trans (HP.out.2.1.mono HM.out.2.1.size)).trans (HA5.out.mono (Nat.le_trans HM.out.2.1.size HP.out.2.1.size))).grown hg9 (Nat.le_trans HM.out.2.1.size (Nat.le_trans HP.out.2.1.size HA5.out.size)) (fun z hz => (HK5.out.lt z hz).1)
                  have HO9 := Lib.hid ho9
                  have HB9 := Lib.hid hb9
                  clear ho9 hg9 hv9 hb9
                  go_wp2_with fail
                  go_roundg gi1
                  case measure => omega
                  case rel => exact ⟨i + 1, m + j, rr ++ [row'], by omega, by go_num, by go_num, by omega, Lib.hid ⟨HO9.out, HB9.out, by rw [List.length_append, List.length_singleton, HM.out.2.2.1], HM.out.2.2.2.1.snoc (by rw [HM.out.2.2.1, HP.out.2.2.2]; exact HP.out.2.2.1), by rw [List.flatten_append, List.length_append, HM.out.2.2.2.2.1, List.flatten_cons, List.flatten_nil, List.append_nil, HP.out.2.2.2], by rw [HSum.out.1, ← HM.out.2.2.2.2.2, ← HKR.out]⟩⟩
    · as_aux_lemma =>
        have hil' : i = L.length := by omega
        have hrr : rr.length = L.length := by rw [HM.out.2.2.1, hil']
        have HRR := Lib.hid hrr
        clear hil' hrr
        by_cases hbig : 200 < m
        · go_wp2_with fail
          go_ret
          exact ⟨rfl, HM.out.2.1⟩
        by_cases hbig2 : 50 < L.length
        · go_wp2_with fail
          go_ret
          exact ⟨rfl, HM.out.2.1⟩
        have hsorted := HS.out HM.out.1.sls HM.out.2.2.2.1.up (by rw [HM.out.2.2.2.2.1]; omega) (by rw [HRR.out]; omega)
        go_wp2_with fail
        refine hsorted.mono ?_
        rintro e w5 ⟨s, out, rfl, hs5, hmg, hb5⟩
        have HMg := Lib.hid hmg
        have hol : out.length = m := by rw [hmg.len, HM.out.2.2.2.2.1]
        have HOl := Lib.hid hol
        have HB5 : Hid (Below w.heap.size w w5) := Lib.hid (HM.out.2.1.trans (hb5.mono HM.out.2.1.size))
        have HS5 : Hid (OnV w5 out s) := Lib.hid hs5.lv
        obtain ⟨As, cs, rfl, hcs1, hcs2⟩ := on_form HS5.out
        rw [hol] at HS5 hcs1 ⊢
        clear hs5 hmg hol hb5 hsorted
        go_wp2_with fail
        go_loopg [13, 14, 15] m (fun gk v13 _ _ wz => ∃ (k : Nat), (k + 1) + gk = m + 1 ∧ v13 = .int .i64 ((k : Int) + 1) ∧ Hid (Below w5.heap.size w5 wz))
        case atStart => exact ⟨0, by omega, by first | rfl | go_num, Lib.hid (Below.refl _ _)⟩
        case round =>
          obtain ⟨k, hkg, rfl, HZ⟩ := hrel
          have HBz : Hid (Below w.heap.size w wr) := Lib.hid (HB5.out.trans (HZ.out.mono HB5.out.size))
          by_cases hkm : k + 1 < m
          · obtain ⟨gk1, hgk1⟩ : ∃ x, gk = x + 1 := ⟨gk - 1, by omega⟩
            obtain ⟨a, ha⟩ : ∃ a, out[k]? = some a := ⟨_, List.getElem?_eq_getElem (by rw [HOl.out]; omega)⟩
            obtain ⟨b, hb⟩ : ∃ b, out[k + 1]? = some b := ⟨_, List.getElem?_eq_getElem (by rw [HOl.out]; omega)⟩
            obtain ⟨hn1, hn2⟩ := HMg.out.next HM.out.2.2.2.1.flat (fun a => onO.irr a trivial) ha hb
            have hlv := Lv.below HS5.out HZ.out
            obtain ⟨q, o, rfl, hq, x0, x1, x2⟩ := on_cell hlv ha
            obtain ⟨_, _, hA, _, y0, y1, y2⟩ := on_cell hlv hb
            injection hA with hA
            injection hA with e1 e2
            subst e1 e2
            have b0 : (0 : Int) ≤ (k : Int) := by omega
            have b1 : (k : Int) < (m : Int) := by omega
            have b2 : (k : Int) + 1 < (m : Int) := by omega
            have b3 : (0 : Int) ≤ (k : Int) + 1 := by omega
            have ha6 : Below wr.heap.size wr (wr.alloc (.cells #[.int .i64 a.n, .int .i64 a.row, .int .i64 a.at_] 44)) := (Below.refl _ _).alloc (Nat.le_refl _) _
            have HA7 : Hid (Below wr.heap.size wr ((wr.alloc (.cells #[.int .i64 a.n, .int .i64 a.row, .int .i64 a.at_] 44)).alloc (.cells #[.int .i64 b.n, .int .i64 b.row, .int .i64 b.at_] 44))) := Lib.hid (ha6.alloc ha6.size _)
            have z0 := (ha6.cell (p := ⟨q, o + (k + 1) * 3, none⟩) hq).trans y0
            have z1 := (ha6.cell (p := ⟨q, o + (k + 1) * 3 + 1, none⟩) hq).trans y1
            have z2 := (ha6.cell (p := ⟨q, o + (k + 1) * 3 + 2, none⟩) hq).trans y2
            simp only [onR, decide_eq_false_iff_not] at hn1 hn2
            have hcase : (a.n < b.n) ∨ (a.n = b.n ∧ a.row < b.row) ∨ (a.n = b.n ∧ a.row = b.row ∧ a.at_ < b.at_) := by
              by_cases h : a.n < b.n
              · exact .inl h
              · rcases hn2 h with h3 | h3
                · exact .inr (.inl ⟨by omega, h3⟩)
                · exact .inr (.inr ⟨by omega, h3⟩)
            clear hn1 hn2 ha hb hlv ha6 y0 y1 y2
            generalize a.n = an at *
            generalize a.row = ar at *
            generalize a.at_ = aa at *
            generalize b.n = bn at *
            generalize b.row = br at *
            generalize b.at_ = ba at *
            rcases hcase with h1 | ⟨rfl, h2⟩ | ⟨rfl, rfl, h3⟩
            · have d1 : ¬ bn < an := by omega
              have d2 : (an == bn) = false := by simp; omega
              go_wp2_with fail
              go_roundg gk1
              case measure => omega
              case rel => exact ⟨k + 1, by omega, by go_num, Lib.hid (HZ.out.trans (HA7.out.mono HZ.out.size))⟩
            · have d1 : ¬ br < ar := by omega
              have d2 : (ar == br) = false := by simp; omega
              go_wp2_with fail
              go_roundg gk1
              case measure => omega
              case rel => exact ⟨k + 1, by omega, by go_num, Lib.hid (HZ.out.trans (HA7.out.mono HZ.out.size))⟩
            · have d1 : ¬ ba ≤ aa := by omega
              go_wp2_with fail
              go_roundg gk1
              case measure => omega
              case rel => exact ⟨k + 1, by omega, by go_num, Lib.hid (HZ.out.trans (HA7.out.mono HZ.out.size))⟩
          · go_wp2_with fail
            go_ret
            exact ⟨rfl, HBz.out⟩
end Go.Proofs.Ytpanpebllapbcaa

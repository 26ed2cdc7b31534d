/-
  ROSTERS in memory: slices of metas, of markers; CONTRACTS of the document's Ids, Metas, Same (of what is the same), Good, Bytes. Conditions: what each says.
  ROSTERS: CONTRACTS of the document's Bytes, Read. Conditions: what each says.
  ROSTERS: CONTRACT of the document's Read. Conditions: what it says.
-/
import Derived.Test.YtmlemclehfdneaaGreatDoorRoA
namespace Go.Proofs.YtmlemclehfdneaaGreatDoor
open Go.RowKit
set_option maxRecDepth 100000

def MeC (_ : World) (m : Me) (x : List Value) : Prop := m.ok ∧ x = [.int .u64 m.id, .int .i64 m.lv, .int .i64 m.st, .int .i64 m.en, .int .i64 m.pg, .int .i64 m.tr]

def MkC (_ : World) (m : Mk) (x : List Value) : Prop := m.ok ∧ x = [.int .u64 m.id, .int .i64 m.at_, .int .u64 m.by_]

def Mes (w : World) (v : Value) (l : List Me) : Prop := ∃ xs, Lv 6 w v xs ∧ Two (MeC w) l xs

def Mks (w : World) (v : Value) (l : List Mk) : Prop := ∃ xs, Lv 3 w v xs ∧ Two (MkC w) l xs

theorem metaT : ElemT Tryz.prog 38 84 6 48 := ⟨Tryz.underlying38, by omega, by
  refine ⟨_, _, rfl, rfl, rfl, rfl, ?_⟩
  rfl⟩

theorem markT : ElemT Tryz.prog 39 88 3 24 := ⟨Tryz.underlying39, by omega, by
  refine ⟨_, _, rfl, rfl, rfl, rfl, ?_⟩
  rfl⟩

section
variable {w w' : World} {v : Value}

theorem Mes.nil (w : World) : Mes w (.slice none 0 0) [] := ⟨[], Lv.nil 6 w, Two.nil⟩

theorem Mks.nil (w : World) : Mks w (.slice none 0 0) [] := ⟨[], Lv.nil 3 w, Two.nil⟩

theorem Mes.below {l : List Me} (h : Mes w v l) (hb : Below w.heap.size w w') : Mes w' v l := by
  obtain ⟨xs, h1, h2⟩ := h
  exact ⟨xs, h1.below hb, h2.mono fun _ _ h => h⟩

theorem Mks.below {l : List Mk} (h : Mks w v l) (hb : Below w.heap.size w w') : Mks w' v l := by
  obtain ⟨xs, h1, h2⟩ := h
  exact ⟨xs, h1.below hb, h2.mono fun _ _ h => h⟩

theorem Mes.form {l : List Me} (h : Mes w v l) : ∃ A c, v = .slice A l.length c ∧ l.length ≤ c ∧ c ≤ 9223372036854775807 := by
  obtain ⟨xs, h1, h2⟩ := h
  obtain ⟨A, c, hv, h3, h4⟩ := h1.form
  rw [← h2.len] at hv h3
  exact ⟨A, c, hv, h3, h4⟩

theorem Mks.form {l : List Mk} (h : Mks w v l) : ∃ A c, v = .slice A l.length c ∧ l.length ≤ c ∧ c ≤ 9223372036854775807 := by
  obtain ⟨xs, h1, h2⟩ := h
  obtain ⟨A, c, hv, h3, h4⟩ := h1.form
  rw [← h2.len] at hv h3
  exact ⟨A, c, hv, h3, h4⟩

theorem Mes.ok {l : List Me} (h : Mes w v l) : ∀ m ∈ l, m.ok := fun m hm => by
  obtain ⟨xs, h1, h2⟩ := h
  obtain ⟨i, hi⟩ := List.getElem?_of_mem hm
  obtain ⟨x, _, ho, _⟩ := h2.right hi
  exact ho

theorem Mks.ok {l : List Mk} (h : Mks w v l) : ∀ m ∈ l, m.ok := fun m hm => by
  obtain ⟨xs, h1, h2⟩ := h
  obtain ⟨i, hi⟩ := List.getElem?_of_mem hm
  obtain ⟨x, _, ho, _⟩ := h2.right hi
  exact ho

theorem Mes.cells {A : Option Addr} {n c : Nat} {l : List Me} (h : Mes w (.slice A n c) l) {i : Nat} {m : Me} (hi : l[i]? = some m) :
    ∃ g o, A = some ⟨g, o, none⟩ ∧ g < w.heap.size ∧ w.cell? ⟨g, o + i * 6, none⟩ = some (.int .u64 m.id) ∧ w.cell? ⟨g, o + i * 6 + 1, none⟩ = some (.int .i64 m.lv) ∧ w.cell? ⟨g, o + i * 6 + 2, none⟩ = some (.int .i64 m.st) ∧ w.cell? ⟨g, o + i * 6 + 3, none⟩ = some (.int .i64 m.en) ∧ w.cell? ⟨g, o + i * 6 + 4, none⟩ = some (.int .i64 m.pg) ∧ w.cell? ⟨g, o + i * 6 + 5, none⟩ = some (.int .i64 m.tr) ∧ m.ok := by
  obtain ⟨xs, h1, h2⟩ := h
  obtain ⟨x, hx, ho, rfl⟩ := h2.right hi
  obtain ⟨g, o, hA, hg, hc⟩ := h1.cells (by omega) hx
  exact ⟨g, o, hA, hg, hc 0 _ rfl, hc 1 _ rfl, hc 2 _ rfl, hc 3 _ rfl, hc 4 _ rfl, hc 5 _ rfl, ho⟩

theorem Mks.cells {A : Option Addr} {n c : Nat} {l : List Mk} (h : Mks w (.slice A n c) l) {i : Nat} {m : Mk} (hi : l[i]? = some m) :
    ∃ g o, A = some ⟨g, o, none⟩ ∧ g < w.heap.size ∧ w.cell? ⟨g, o + i * 3, none⟩ = some (.int .u64 m.id) ∧ w.cell? ⟨g, o + i * 3 + 1, none⟩ = some (.int .i64 m.at_) ∧ w.cell? ⟨g, o + i * 3 + 2, none⟩ = some (.int .u64 m.by_) ∧ m.ok := by
  obtain ⟨xs, h1, h2⟩ := h
  obtain ⟨x, hx, ho, rfl⟩ := h2.right hi
  obtain ⟨g, o, hA, hg, hc⟩ := h1.cells (by omega) hx
  exact ⟨g, o, hA, hg, hc 0 _ rfl, hc 1 _ rfl, hc 2 _ rfl, ho⟩

end

theorem Ids_same (v v' : Value) (l : List Nat) (w : World) (h : Us w v l) (h' : Us w v' l) :
    Calls Tryz.prog 10 #[v, v'] w fun e w' => e = .returned (.bool true) ∧ Below w.heap.size w w' := by
  have SL := Lib.hid h
  have SR := Lib.hid h'
  obtain ⟨A, c, rfl, hc1, hc2⟩ := h.form
  obtain ⟨A', c', rfl, hc1', hc2'⟩ := h'.form
  clear h h'
  go_enter Tryz.func10, Tryz.ntmps10
  go_wp2_with fail
  go_loopg [5] l.length (fun gk iv wr => ∃ k : Nat, k + gk = l.length ∧ iv = .int .i64 (k : Int) ∧ Hid (Below w.heap.size w wr))
  case atStart => exact ⟨0, by omega, rfl, Lib.hid (Below.refl _ _)⟩
  case round =>
    obtain ⟨k, hk, rfl, HB⟩ := hrel
    by_cases hlt : k < l.length
    · obtain ⟨gk1, hgk1⟩ : ∃ x, gk = x + 1 := ⟨gk - 1, by omega⟩
      obtain ⟨t, hkt⟩ : ∃ t, l[k]? = some t := ⟨_, List.getElem?_eq_getElem hlt⟩
      obtain ⟨g, o, rfl, hg, c0⟩ := (SL.out.below HB.out).cell hkt
      obtain ⟨g', o', rfl, hg', x0⟩ := (SR.out.below HB.out).cell hkt
      have hb0 : (0 : Int) ≤ (k : Int) := by omega
      have hb1 : (k : Int) < (l.length : Int) := by omega
      clear hkt
      go_wp2_with fail
      go_quiet (fail)
      go_wp2_with fail
      go_roundg gk1
      case measure => omega
      case rel => exact ⟨k + 1, by omega, by go_num, Lib.hid (below_drewN HB.out _)⟩
    · have hkn : k = l.length := by omega
      go_wp2_with fail
      go_ret
      exact ⟨rfl, HB.out⟩

theorem Metas_same (v v' : Value) (l : List Me) (w : World) (h : Mes w v l) (h' : Mes w v' l) :
    Calls Tryz.prog 37 #[v, v'] w fun e w' => e = .returned (.bool true) ∧ Below w.heap.size w w' := by
  have SL := Lib.hid h
  have SR := Lib.hid h'
  obtain ⟨A, c, rfl, hc1, hc2⟩ := h.form
  obtain ⟨A', c', rfl, hc1', hc2'⟩ := h'.form
  clear h h'
  go_enter Tryz.func37, Tryz.ntmps37
  go_wp2_with fail
  go_loopg [5] l.length (fun gk iv wr => ∃ k : Nat, k + gk = l.length ∧ iv = .int .i64 (k : Int) ∧ Hid (Below w.heap.size w wr))
  case atStart => exact ⟨0, by omega, rfl, Lib.hid (Below.refl _ _)⟩
  case round =>
    obtain ⟨k, hk, rfl, HB⟩ := hrel
    by_cases hlt : k < l.length
    · obtain ⟨gk1, hgk1⟩ : ∃ x, gk = x + 1 := ⟨gk - 1, by omega⟩
      obtain ⟨t, hkt⟩ : ∃ t, l[k]? = some t := ⟨_, List.getElem?_eq_getElem hlt⟩
      obtain ⟨g, o, rfl, hg, c0, c1, c2, c3, c4, c5, _⟩ := (SL.out.below HB.out).cells hkt
      obtain ⟨g', o', rfl, hg', x0, x1, x2, x3, x4, x5, _⟩ := (SR.out.below HB.out).cells hkt
      have hb0 : (0 : Int) ≤ (k : Int) := by omega
      have hb1 : (k : Int) < (l.length : Int) := by omega
      clear hkt
      go_wp2_with fail
      go_quiet (fail)
      go_wp2_with fail
      go_roundg gk1
      case measure => omega
      case rel => exact ⟨k + 1, by omega, by go_num, Lib.hid (below_drewN HB.out _)⟩
    · have hkn : k = l.length := by omega
      go_wp2_with fail
      go_ret
      exact ⟨rfl, HB.out⟩

abbrev roV (a b : Value) : Value := .agg #[a, b]

theorem Same_same (a a' b b' : Value) (l : List Me) (k : List Mk) (w : World) (h : Mes w a l) (h' : Mes w a' l) (q : Mks w b k) (q' : Mks w b' k) :
    Calls Tryz.prog 16 #[roV a b, roV a' b'] w fun e w' => e = .returned (.bool true) ∧ Below w.heap.size w w' := by
  have HM := Lib.hid fun (u : World) (hu : Below w.heap.size w u) => Metas_same a a' l u (h.below hu) (h'.below hu)
  have SL := Lib.hid q
  have SR := Lib.hid q'
  obtain ⟨Aa, ca, rfl, _, _⟩ := h.form
  obtain ⟨Ab, cb, rfl, _, _⟩ := h'.form
  obtain ⟨A, c, rfl, hc1, hc2⟩ := q.form
  obtain ⟨A', c', rfl, hc1', hc2'⟩ := q'.form
  clear h h' q q'
  have hb0 : Below w.heap.size w ((w.alloc (.cells #[.slice Aa l.length ca, .slice A k.length c] 44)).alloc (.cells #[.slice Ab l.length cb, .slice A' k.length c'] 44)) := ((Below.refl _ _).alloc (Nat.le_refl _) _).alloc (by simp) _
  have HR0 : Hid (Blk ((w.alloc (.cells #[.slice Aa l.length ca, .slice A k.length c] 44)).alloc (.cells #[.slice Ab l.length cb, .slice A' k.length c'] 44)) w.heap.size 44 #[.slice Aa l.length ca, .slice A k.length c]) := Lib.hid ((Blk.new w _ _).alloc _)
  have HR1 : Hid (Blk ((w.alloc (.cells #[.slice Aa l.length ca, .slice A k.length c] 44)).alloc (.cells #[.slice Ab l.length cb, .slice A' k.length c'] 44)) (w.heap.size + 1) 44 #[.slice Ab l.length cb, .slice A' k.length c']) := Lib.hid (by
    have := Blk.new (w.alloc (.cells #[.slice Aa l.length ca, .slice A k.length c] 44)) 44 #[.slice Ab l.length cb, .slice A' k.length c']
    simpa using this)
  have HB0 := Lib.hid hb0
  clear hb0
  go_enter Tryz.func16, Tryz.ntmps16
  go_wp2_with fail
  revert HR0 HR1 HB0
  generalize (w.alloc (.cells #[.slice Aa l.length ca, .slice A k.length c] 44)).alloc (.cells #[.slice Ab l.length cb, .slice A' k.length c'] 44) = w0
  intro HR0 HR1 HB0
  refine (HM.out _ HB0.out).mono ?_
  rintro e w1 ⟨rfl, hb1⟩
  have HB1 := Lib.hid (HB0.out.trans (hb1.mono HB0.out.size))
  have HR2 := Lib.hid (HR0.out.below hb1 HR0.out.lt)
  have HR3 := Lib.hid (HR1.out.below hb1 HR1.out.lt)
  have x1 := HR2.out.cell 1
  have y1 := HR3.out.cell 1
  simp at x1 y1
  clear hb1 HM HR0 HR1 HB0
  go_wp2_with fail
  go_loopg [6] k.length (fun gk iv wr => ∃ i : Nat, i + gk = k.length ∧ iv = .int .i64 (i : Int) ∧ Hid (Below w1.heap.size w1 wr))
  case atStart => exact ⟨0, by omega, rfl, Lib.hid (Below.refl _ _)⟩
  case round =>
    obtain ⟨i, hi, rfl, HB⟩ := hrel
    have z1 := (HB.out.cell (World.block_lt_of_cell? w1 _ x1)).trans x1
    have z2 := (HB.out.cell (World.block_lt_of_cell? w1 _ y1)).trans y1
    by_cases hlt : i < k.length
    · obtain ⟨gk1, hgk1⟩ : ∃ x, gk = x + 1 := ⟨gk - 1, by omega⟩
      obtain ⟨t, hkt⟩ : ∃ t, k[i]? = some t := ⟨_, List.getElem?_eq_getElem hlt⟩
      obtain ⟨g, o, rfl, hg, c0, c1, c2, _⟩ := (SL.out.below (HB1.out.trans (HB.out.mono HB1.out.size))).cells hkt
      obtain ⟨g', o', rfl, hg', v0, v1, v2, _⟩ := (SR.out.below (HB1.out.trans (HB.out.mono HB1.out.size))).cells hkt
      have hb0 : (0 : Int) ≤ (i : Int) := by omega
      have hb1 : (i : Int) < (k.length : Int) := by omega
      clear hkt
      go_wp2_with fail
      go_quiet (fail)
      go_wp2_with fail
      go_roundg gk1
      case measure => omega
      case rel => exact ⟨i + 1, by omega, by go_num, Lib.hid (below_drewN HB.out _)⟩
    · have hkn : i = k.length := by omega
      go_wp2_with fail
      go_ret
      exact ⟨rfl, HB1.out.trans (HB.out.mono HB1.out.size)⟩

open Classical in
noncomputable def goodB (l : List Me) (k : List Mk) : Bool := decide (RosG l k)

theorem goodB_no {l : List Me} {k : List Mk} (h : ¬ RosG l k) : goodB l k = false := by simp [goodB, h]

theorem goodB_yes {l : List Me} {k : List Mk} (h : RosG l k) : goodB l k = true := by simp [goodB, h]

theorem upM_at {α : Type} {f : α → Int} {l : List α} (h : UpM (l.map f)) {j : Nat} {x y : α} (hx : l[j]? = some x) (hy : l[j + 1]? = some y) : f x < f y := h j _ _ (by rw [List.getElem?_map, hx]; rfl) (by rw [List.getElem?_map, hy]; rfl)

theorem upM_of {α : Type} {f : α → Int} {l : List α} (h : ∀ (j : Nat) x y, l[j]? = some x → l[j + 1]? = some y → f x < f y) : UpM (l.map f) := fun j a b ha hb => by
  rw [List.getElem?_map] at ha hb
  obtain ⟨x, hx, rfl⟩ := Option.map_eq_some_iff.1 ha
  obtain ⟨y, hy, rfl⟩ := Option.map_eq_some_iff.1 hb
  exact h j x y hx hy

set_option maxHeartbeats 6400000 in
theorem DGood_any (a b : Value) (l : List Me) (k : List Mk) (w : World) (h : Mes w a l) (q : Mks w b k) :
    Calls Tryz.prog 20 #[roV a b] w fun e w' => e = .returned (.bool (goodB l k)) ∧ Below w.heap.size w w' := by
  obtain ⟨A, c, rfl, _, _⟩ := h.form
  obtain ⟨B, d, rfl, _, _⟩ := q.form
  have hb0 : Below w.heap.size w (w.alloc (.cells #[.slice A l.length c, .slice B k.length d] 44)) := (Below.refl _ _).alloc (Nat.le_refl _) _
  have HR0 : Hid (Blk (w.alloc (.cells #[.slice A l.length c, .slice B k.length d] 44)) w.heap.size 44 #[.slice A l.length c, .slice B k.length d]) := Lib.hid (Blk.new _ _ _)
  have SL := Lib.hid (h.below hb0)
  have SK := Lib.hid (q.below hb0)
  have HB0 := Lib.hid hb0
  clear h q hb0
  go_enter Tryz.func20, Tryz.ntmps20
  go_wp2_with fail
  revert HR0 SL SK HB0
  generalize w.alloc (.cells #[.slice A l.length c, .slice B k.length d] 44) = w0
  intro HR0 SL SK HB0
  go_loopg [3] l.length (fun gk iv wr => ∃ i : Nat, i + gk = l.length ∧ iv = .int .i64 (i : Int) ∧ Hid (Below w0.heap.size w0 wr ∧ (∀ (j : Nat) m, l[j]? = some m → j < i → meP m) ∧ ∀ (j : Nat) x y, l[j]? = some x → l[j + 1]? = some y → j + 1 < i → x.id < y.id))
  case atStart => exact ⟨0, by omega, rfl, Lib.hid ⟨Below.refl _ _, (fun j m _ h => by omega), fun j x y _ _ h => by omega⟩⟩
  case round =>
    obtain ⟨i, hi, rfl, HW⟩ := hrel
    have hRw := HR0.out.below HW.out.1 HR0.out.lt
    have r0 := hRw.cell 0
    have r1 := hRw.cell 1
    simp at r0 r1
    by_cases hlt : i < l.length
    · obtain ⟨gk1, hgk1⟩ : ∃ x, gk = x + 1 := ⟨gk - 1, by omega⟩
      obtain ⟨m, hm⟩ : ∃ m, l[i]? = some m := ⟨_, List.getElem?_eq_getElem hlt⟩
      obtain ⟨g, o, hA, hg, c0, c1, c2, c3, c4, c5, hok⟩ := (SL.out.below HW.out.1).cells hm
      subst hA
      have a0 : (0 : Int) ≤ (i : Int) := by omega
      have a1 : (i : Int) < (l.length : Int) := by omega
      have HM := Lib.hid hm
      have hcall := MMay_any m hok
      cases hmb : meB m with
      | false =>
        have HNO : Hid (goodB l k = false) := Lib.hid (goodB_no fun h => by
          have := h.may m (List.mem_of_getElem? hm)
          rw [meB, decide_eq_true this] at hmb
          cases hmb)
        rw [hmb] at hcall
        clear hm hmb hRw
        go_wp2_with fail
        refine (hcall _).mono ?_
        rintro e w2 ⟨rfl, hb2⟩
        have HB2 := Lib.hid (HW.out.1.trans (hb2.mono HW.out.1.size))
        have z0 := (hb2.cell (World.block_lt_of_cell? wr _ r0)).trans r0
        have z1 := (hb2.cell (World.block_lt_of_cell? wr _ r1)).trans r1
        clear hcall hb2 r0 r1
        go_wp2_with fail
        go_quiet (fail)
        go_wp2_with fail
        go_ret
        rw [HNO.out]
        exact ⟨rfl, HB0.out.trans ((below_drewN HB2.out _).mono HB0.out.size)⟩
      | true =>
        have HP : Hid (meP m) := Lib.hid (of_decide_eq_true hmb)
        rw [hmb] at hcall
        clear hmb
        by_cases hi0 : i = 0
        · subst hi0
          simp only [Nat.zero_mul, Nat.add_zero] at c0 c1 c2 c3 c4 c5
          clear hm hRw
          go_wp2_with fail
          refine (hcall _).mono ?_
          rintro e w2 ⟨rfl, hb2⟩
          have HB2 := Lib.hid (HW.out.1.trans (hb2.mono HW.out.1.size))
          have z0 := (hb2.cell (World.block_lt_of_cell? wr _ r0)).trans r0
          have z1 := (hb2.cell (World.block_lt_of_cell? wr _ r1)).trans r1
          clear hcall hb2 r0 r1
          go_wp2_with fail
          go_quiet (fail)
          go_wp2_with fail
          go_roundg gk1
          case measure => omega
          case rel => exact ⟨1, by omega, by go_num, Lib.hid ⟨below_drewN HB2.out _, (fun j x hx hj => by
            have : j = 0 := by omega
            subst this
            rw [HM.out] at hx
            exact Option.some.inj hx ▸ HP.out), fun j x y _ _ h => by omega⟩⟩
        · obtain ⟨j, rfl⟩ : ∃ j, i = j + 1 := ⟨i - 1, by omega⟩
          obtain ⟨p, hp⟩ : ∃ p, l[j]? = some p := ⟨_, List.getElem?_eq_getElem (by omega)⟩
          obtain ⟨g', o', hA', hg', d0, d1, d2, d3, d4, d5, _⟩ := (SL.out.below HW.out.1).cells hp
          injection hA' with hA'
          injection hA' with e1 e2
          subst e1 e2
          have hpj : (((j + 1 : Nat) : Int) - 1) = (j : Int) := by omega
          have a2 : (0 : Int) ≤ (j : Int) := by omega
          have a3 : (j : Int) < (l.length : Int) := by omega
          have hpos : (0 : Int) < ((j + 1 : Nat) : Int) := by omega
          have HPV := Lib.hid hp
          by_cases hup : p.id < m.id
          · have hge : decide (m.id ≤ p.id) = false := decide_eq_false (by omega)
            have HUP := Lib.hid hup
            clear hm hp hup hRw
            go_wp2_with fail
            refine (hcall _).mono ?_
            rintro e w2 ⟨rfl, hb2⟩
            have HB2 := Lib.hid (HW.out.1.trans (hb2.mono HW.out.1.size))
            have z0 := (hb2.cell (World.block_lt_of_cell? wr _ r0)).trans r0
            have z1 := (hb2.cell (World.block_lt_of_cell? wr _ r1)).trans r1
            have y0 := (hb2.cell (World.block_lt_of_cell? wr _ c0)).trans c0
            have y1 := (hb2.cell (World.block_lt_of_cell? wr _ d0)).trans d0
            clear hcall hb2 r0 r1
            go_wp2_with fail
            go_quiet (fail)
            go_wp2_with fail
            go_roundg gk1
            case measure => omega
            case rel => exact ⟨j + 1 + 1, by omega, by go_num, Lib.hid ⟨below_drewN HB2.out _, (fun i x hx hi => by
              by_cases hij : i = j + 1
              · subst hij
                rw [HM.out] at hx
                exact Option.some.inj hx ▸ HP.out
              · exact HW.out.2.1 i x hx (by omega)), fun i x y hx hy hi => by
              by_cases hij : i = j
              · subst hij
                rw [HPV.out] at hx
                rw [HM.out] at hy
                exact Option.some.inj hx ▸ Option.some.inj hy ▸ HUP.out
              · exact HW.out.2.2 i x y hx hy (by omega)⟩⟩
          · have hge : decide (m.id ≤ p.id) = true := decide_eq_true (by omega)
            have HNO : Hid (goodB l k = false) := Lib.hid (goodB_no fun h => hup (upM_at h.upl hp hm))
            clear hm hp hup hRw
            go_wp2_with fail
            refine (hcall _).mono ?_
            rintro e w2 ⟨rfl, hb2⟩
            have HB2 := Lib.hid (HW.out.1.trans (hb2.mono HW.out.1.size))
            have z0 := (hb2.cell (World.block_lt_of_cell? wr _ r0)).trans r0
            have z1 := (hb2.cell (World.block_lt_of_cell? wr _ r1)).trans r1
            have y0 := (hb2.cell (World.block_lt_of_cell? wr _ c0)).trans c0
            have y1 := (hb2.cell (World.block_lt_of_cell? wr _ d0)).trans d0
            clear hcall hb2 r0 r1
            go_wp2_with fail
            go_quiet (fail)
            go_wp2_with fail
            go_ret
            rw [HNO.out]
            exact ⟨rfl, HB0.out.trans ((below_drewN HB2.out _).mono HB0.out.size)⟩
    · have hil : i = l.length := by omega
      subst hil
      have HL1 : Hid (∀ m ∈ l, meP m) := Lib.hid fun m hm => by
        obtain ⟨j, hj⟩ := List.getElem?_of_mem hm
        exact HW.out.2.1 j m hj (List.getElem?_eq_some_iff.1 hj).1
      have HL2 : Hid (UpM (l.map (·.id))) := Lib.hid (upM_of fun j x y hx hy => HW.out.2.2 j x y hx hy (List.getElem?_eq_some_iff.1 hy).1)
      have HBW := Lib.hid HW.out.1
      have HRW := Lib.hid hRw
      clear HW hRw hi hlt
      go_wp2_with fail
      go_loopg [5] k.length (fun gk iv wr => ∃ i : Nat, i + gk = k.length ∧ iv = .int .i64 (i : Int) ∧ Hid (Below w0.heap.size w0 wr ∧ (∀ (j : Nat) m, k[j]? = some m → j < i → mkP m) ∧ ∀ (j : Nat) x y, k[j]? = some x → k[j + 1]? = some y → j + 1 < i → x.id < y.id))
      case atStart => exact ⟨0, by omega, rfl, Lib.hid ⟨HBW.out, (fun j m _ h => by omega), fun j x y _ _ h => by omega⟩⟩
      case round =>
        obtain ⟨i, hi, rfl, HW⟩ := hrel
        have hRw := HR0.out.below HW.out.1 HR0.out.lt
        have r0 := hRw.cell 0
        have r1 := hRw.cell 1
        simp at r0 r1
        by_cases hlt : i < k.length
        · obtain ⟨gk1, hgk1⟩ : ∃ x, gk = x + 1 := ⟨gk - 1, by omega⟩
          obtain ⟨m, hm⟩ : ∃ m, k[i]? = some m := ⟨_, List.getElem?_eq_getElem hlt⟩
          obtain ⟨g, o, hA, hg, c0, c1, c2, hok⟩ := (SK.out.below HW.out.1).cells hm
          subst hA
          have a0 : (0 : Int) ≤ (i : Int) := by omega
          have a1 : (i : Int) < (k.length : Int) := by omega
          have HM := Lib.hid hm
          have hcall := MFair_any m hok
          cases hmb : mkB m with
          | false =>
            have HNO : Hid (goodB l k = false) := Lib.hid (goodB_no fun h => by
              have := h.fair m (List.mem_of_getElem? hm)
              rw [mkB, decide_eq_true this] at hmb
              cases hmb)
            rw [hmb] at hcall
            clear hm hmb hRw
            go_wp2_with fail
            refine (hcall _).mono ?_
            rintro e w2 ⟨rfl, hb2⟩
            have HB2 := Lib.hid (HW.out.1.trans (hb2.mono HW.out.1.size))
            have z0 := (hb2.cell (World.block_lt_of_cell? wr _ r0)).trans r0
            have z1 := (hb2.cell (World.block_lt_of_cell? wr _ r1)).trans r1
            clear hcall hb2 r0 r1
            go_wp2_with fail
            go_quiet (fail)
            go_wp2_with fail
            go_ret
            rw [HNO.out]
            exact ⟨rfl, HB0.out.trans ((below_drewN HB2.out _).mono HB0.out.size)⟩
          | true =>
            have HP : Hid (mkP m) := Lib.hid (of_decide_eq_true hmb)
            rw [hmb] at hcall
            clear hmb
            by_cases hi0 : i = 0
            · subst hi0
              simp only [Nat.zero_mul, Nat.add_zero] at c0 c1 c2
              clear hm hRw
              go_wp2_with fail
              refine (hcall _).mono ?_
              rintro e w2 ⟨rfl, hb2⟩
              have HB2 := Lib.hid (HW.out.1.trans (hb2.mono HW.out.1.size))
              have z0 := (hb2.cell (World.block_lt_of_cell? wr _ r0)).trans r0
              have z1 := (hb2.cell (World.block_lt_of_cell? wr _ r1)).trans r1
              clear hcall hb2 r0 r1
              go_wp2_with fail
              go_quiet (fail)
              go_wp2_with fail
              go_roundg gk1
              case measure => omega
              case rel => exact ⟨1, by omega, by go_num, Lib.hid ⟨below_drewN HB2.out _, (fun j x hx hj => by
                have : j = 0 := by omega
                subst this
                rw [HM.out] at hx
                exact Option.some.inj hx ▸ HP.out), fun j x y _ _ h => by omega⟩⟩
            · obtain ⟨j, rfl⟩ : ∃ j, i = j + 1 := ⟨i - 1, by omega⟩
              obtain ⟨p, hp⟩ : ∃ p, k[j]? = some p := ⟨_, List.getElem?_eq_getElem (by omega)⟩
              obtain ⟨g', o', hA', hg', d0, d1, d2, _⟩ := (SK.out.below HW.out.1).cells hp
              injection hA' with hA'
              injection hA' with e1 e2
              subst e1 e2
              have hpj : (((j + 1 : Nat) : Int) - 1) = (j : Int) := by omega
              have a2 : (0 : Int) ≤ (j : Int) := by omega
              have a3 : (j : Int) < (k.length : Int) := by omega
              have hpos : (0 : Int) < ((j + 1 : Nat) : Int) := by omega
              have HPV := Lib.hid hp
              by_cases hup : p.id < m.id
              · have hge : decide (m.id ≤ p.id) = false := decide_eq_false (by omega)
                have HUP := Lib.hid hup
                clear hm hp hup hRw
                go_wp2_with fail
                refine (hcall _).mono ?_
                rintro e w2 ⟨rfl, hb2⟩
                have HB2 := Lib.hid (HW.out.1.trans (hb2.mono HW.out.1.size))
                have z0 := (hb2.cell (World.block_lt_of_cell? wr _ r0)).trans r0
                have z1 := (hb2.cell (World.block_lt_of_cell? wr _ r1)).trans r1
                have y0 := (hb2.cell (World.block_lt_of_cell? wr _ c0)).trans c0
                have y1 := (hb2.cell (World.block_lt_of_cell? wr _ d0)).trans d0
                clear hcall hb2 r0 r1
                go_wp2_with fail
                go_quiet (fail)
                go_wp2_with fail
                go_roundg gk1
                case measure => omega
                case rel => exact ⟨j + 1 + 1, by omega, by go_num, Lib.hid ⟨below_drewN HB2.out _, (fun i x hx hi => by
                  by_cases hij : i = j + 1
                  · subst hij
                    rw [HM.out] at hx
                    exact Option.some.inj hx ▸ HP.out
                  · exact HW.out.2.1 i x hx (by omega)), fun i x y hx hy hi => by
                  by_cases hij : i = j
                  · subst hij
                    rw [HPV.out] at hx
                    rw [HM.out] at hy
                    exact Option.some.inj hx ▸ Option.some.inj hy ▸ HUP.out
                  · exact HW.out.2.2 i x y hx hy (by omega)⟩⟩
              · have hge : decide (m.id ≤ p.id) = true := decide_eq_true (by omega)
                have HNO : Hid (goodB l k = false) := Lib.hid (goodB_no fun h => hup (upM_at h.upk hp hm))
                clear hm hp hup hRw
                go_wp2_with fail
                refine (hcall _).mono ?_
                rintro e w2 ⟨rfl, hb2⟩
                have HB2 := Lib.hid (HW.out.1.trans (hb2.mono HW.out.1.size))
                have z0 := (hb2.cell (World.block_lt_of_cell? wr _ r0)).trans r0
                have z1 := (hb2.cell (World.block_lt_of_cell? wr _ r1)).trans r1
                have y0 := (hb2.cell (World.block_lt_of_cell? wr _ c0)).trans c0
                have y1 := (hb2.cell (World.block_lt_of_cell? wr _ d0)).trans d0
                clear hcall hb2 r0 r1
                go_wp2_with fail
                go_quiet (fail)
                go_wp2_with fail
                go_ret
                rw [HNO.out]
                exact ⟨rfl, HB0.out.trans ((below_drewN HB2.out _).mono HB0.out.size)⟩
        · have hil : i = k.length := by omega
          subst hil
          have HK1 : Hid (∀ m ∈ k, mkP m) := Lib.hid fun m hm => by
            obtain ⟨j, hj⟩ := List.getElem?_of_mem hm
            exact HW.out.2.1 j m hj (List.getElem?_eq_some_iff.1 hj).1
          have HK2 : Hid (UpM (k.map (·.id))) := Lib.hid (upM_of fun j x y hx hy => HW.out.2.2 j x y hx hy (List.getElem?_eq_some_iff.1 hy).1)
          have HBW2 := Lib.hid HW.out.1
          clear HW hRw hi hlt
          by_cases h1 : l.length ≤ 1000
          · have hd1 : decide ((l.length : Int) ≤ 1000) = true := decide_eq_true (by omega)
            by_cases h2 : k.length ≤ 1000
            · have hd2 : decide ((k.length : Int) ≤ 1000) = true := decide_eq_true (by omega)
              have HE : Hid (goodB l k = true) := Lib.hid (goodB_yes ⟨HL1.out, HL2.out, HK1.out, HK2.out, h1, h2⟩)
              clear h1 h2
              go_wp2_with fail
              go_ret
              rw [HE.out]
              exact ⟨rfl, HB0.out.trans (HBW2.out.mono HB0.out.size)⟩
            · have hd2 : decide ((k.length : Int) ≤ 1000) = false := decide_eq_false (by omega)
              have HE : Hid (goodB l k = false) := Lib.hid (goodB_no fun h => h2 h.fewk)
              clear h1 h2
              go_wp2_with fail
              go_ret
              rw [HE.out]
              exact ⟨rfl, HB0.out.trans (HBW2.out.mono HB0.out.size)⟩
          · have hd1 : decide ((l.length : Int) ≤ 1000) = false := decide_eq_false (by omega)
            have HE : Hid (goodB l k = false) := Lib.hid (goodB_no fun h => h1 h.fewl)
            clear h1
            go_wp2_with fail
            go_ret
            rw [HE.out]
            exact ⟨rfl, HB0.out.trans (HBW2.out.mono HB0.out.size)⟩

set_option maxHeartbeats 6400000 in
theorem DRoBytes_any (a b : Value) (l : List Me) (k : List Mk) (w : World) (h : Mes w a l) (q : Mks w b k) (hg : RosG l k) :
    Calls Tryz.prog 21 #[roV a b] w fun e w' => ∃ y, e = .returned y ∧ Own w' w.heap.size 5 y (sealedOf (rosRaw l k)) ∧ Below w.heap.size w w' := by
  have hfl := hg.fewl
  have hfk := hg.fewk
  obtain ⟨A, c, rfl, _, _⟩ := h.form
  obtain ⟨B, d, rfl, _, _⟩ := q.form
  have hb0 : Below w.heap.size w (w.alloc (.cells #[.slice A l.length c, .slice B k.length d] 44)) := (Below.refl _ _).alloc (Nat.le_refl _) _
  have HR0 : Hid (Blk (w.alloc (.cells #[.slice A l.length c, .slice B k.length d] 44)) w.heap.size 44 #[.slice A l.length c, .slice B k.length d]) := Lib.hid (Blk.new _ _ _)
  have SL := Lib.hid (h.below hb0)
  have SK := Lib.hid (q.below hb0)
  have HB0 := Lib.hid hb0
  have HG := Lib.hid hg
  have B0 := Lib.hid fun u => Bytes_any 2 ((l.length : Nat) : Int) u (by omega) (by omega) (by omega) (by omega)
  have B1 := Lib.hid fun u => Bytes_any 2 ((k.length : Nat) : Int) u (by omega) (by omega) (by omega) (by omega)
  simp only [Int.toNat_natCast] at B0 B1
  have hwl : IntKind.u64.wrap ((l.length : Nat) : Int) = ((l.length : Nat) : Int) := wrapU l.length (by omega)
  have hwk : IntKind.u64.wrap ((k.length : Nat) : Int) = ((k.length : Nat) : Int) := wrapU k.length (by omega)
  clear h q hb0 hg
  go_enter Tryz.func21, Tryz.ntmps21
  go_wp2_with fail
  revert HR0 SL SK HB0
  generalize w.alloc (.cells #[.slice A l.length c, .slice B k.length d] 44) = w1
  intro HR0 SL SK HB0
  have HWL : Hid (w.heap.size < w1.heap.size) := Lib.hid HR0.out.lt
  refine wp_region_mix [(0, false), (1, false), (2, false), (3, false), (5, false), (6, false), (7, false), (8, false), (4, true), (9, true), (10, true), (11, false)] (fun u => u.cell? ⟨w.heap.size, 0, none⟩ = some (.slice A l.length c) ∧ u.cell? ⟨w.heap.size, 1, none⟩ = some (.slice B k.length d)) (by kernel_rfl) (by kernel_rfl) (by kernel_rfl) rfl ⟨HR0.out.cell 0, HR0.out.cell 1⟩ ?_
  iterate 8
    (refine mix_read (o := ⟨_, _, _, _, _, _⟩) (v := ?_) rfl (by rfl) (fun w' hS => ?_) ?_
     rotate_left
     obtain ⟨k0, k2⟩ := hS
     go_simp
     with_reducible rfl
     try simp only [Act.put, List.setIfInBounds_toArray, List.set_cons_zero, List.set_cons_succ])
  refine mix_step (o := ⟨_, _, _, _, _, _⟩) rfl (fun K hK => ?_)
  go_simp
  refine (B0.out _).mono ?_
  rintro e1 w2 ⟨v2, rfl, ho2, hb2⟩
  have hb2' : Below w1.heap.size w1 w2 := (Below.refl _ w1).drew.trans hb2
  have HM2 := Lib.hid (HR0.out.below hb2' HR0.out.lt)
  refine hK.out _ _ ⟨HM2.out.cell 0, HM2.out.cell 1⟩ ?_
  clear hK K
  try simp only [Act.put, List.setIfInBounds_toArray, List.set_cons_zero, List.set_cons_succ]
  have HO2 : Hid (Own w2 w1.heap.size 5 v2 (bet l.length 2)) := Lib.hid ho2
  have HB2 := Lib.hid hb2'
  clear hb2 ho2 hb2'
  refine mix_step (o := ⟨_, _, _, _, _, _⟩) rfl (fun K hK => ?_)
  go_simp
  refine (B1.out _).mono ?_
  rintro e1 w3 ⟨v3, rfl, ho3, hb3⟩
  have HM3 := Lib.hid (HM2.out.below hb3 HM2.out.lt)
  refine hK.out _ _ ⟨HM3.out.cell 0, HM3.out.cell 1⟩ ?_
  clear hK K
  try simp only [Act.put, List.setIfInBounds_toArray, List.set_cons_zero, List.set_cons_succ]
  have HO3 : Hid (Own w3 w1.heap.size 5 v2 (bet l.length 2)) := Lib.hid (HO2.out.below hb3)
  have HV3 := Lib.hid ho3.bs
  have HB3 := Lib.hid (HB2.out.trans (hb3.mono HB2.out.size))
  have HS3 : Hid (w1.heap.size ≤ w3.heap.size) := Lib.hid HB3.out.size
  clear hb3 ho3 HO2 HB2 HM2
  refine mix_step (o := ⟨_, _, _, _, _, _⟩) rfl (fun K hK => ?_)
  refine step_append_v _ byteT (by rfl) _ _ (by rfl) w1.heap.size v2 _ (by rfl) HO3.out v3 _ (by rfl) HV3.out (by simp only [bet_length]; decide) HS3.out ?_
  intro v4 w4 ho4 hg4 _
  have HB4 := Lib.hid (HB3.out.grown hg4 HB3.out.size (fun z hz => HO3.out.ge z hz))
  have HM4 := Lib.hid (HR0.out.below HB4.out HR0.out.lt)
  have HO4 : Hid (Own w4 w1.heap.size 5 v4 (bet l.length 2 ++ bet k.length 2)) := Lib.hid ho4
  refine hK.out _ _ ⟨HM4.out.cell 0, HM4.out.cell 1⟩ ?_
  clear hK K
  try simp only [Act.put, List.setIfInBounds_toArray, List.set_cons_zero, List.set_cons_succ]
  refine mix_read (o := ⟨_, _, _, _, _, _⟩) (v := ?_) rfl (by rfl) (fun w' hS => ?_) ?_
  rotate_left
  go_simp
  with_reducible rfl
  try simp only [Act.put, List.setIfInBounds_toArray, List.set_cons_zero, List.set_cons_succ]
  refine mix_done ?_
  clear ho4 hg4 HO3 HV3 HB3 HS3 HM3 HM4 B0 B1
  go_wp2_with fail
  go_loopg [3, 4] l.length (fun gk ov iv wr => ∃ i : Nat, i + gk = l.length ∧ iv = .int .i64 (i : Int) ∧ Hid (Below w1.heap.size w1 wr ∧ Own wr w1.heap.size 5 ov (bet l.length 2 ++ bet k.length 2 ++ (l.take i).flatMap meRaw)))
  case atStart => exact ⟨0, by omega, rfl, Lib.hid ⟨HB4.out, by simpa using HO4.out⟩⟩
  case round =>
    obtain ⟨i, hi, rfl, HW⟩ := hrel
    have hRw := HR0.out.below HW.out.1 HR0.out.lt
    have r0 := hRw.cell 0
    have r1 := hRw.cell 1
    simp at r0 r1
    clear hRw
    by_cases hlt : i < l.length
    · obtain ⟨gk1, hgk1⟩ : ∃ x, gk = x + 1 := ⟨gk - 1, by omega⟩
      obtain ⟨m, hm⟩ : ∃ m, l[i]? = some m := ⟨_, List.getElem?_eq_getElem hlt⟩
      obtain ⟨g, o, hA, hg, c0, c1, c2, c3, c4, c5, hok⟩ := (SL.out.below HW.out.1).cells hm
      subst hA
      have a0 : (0 : Int) ≤ (i : Int) := by omega
      have a1 : (i : Int) < (l.length : Int) := by omega
      have HT : Hid (l.take (i + 1) = l.take i ++ [m]) := Lib.hid (by rw [List.take_add_one, hm]; rfl)
      have hcall := Plain_any m hok
      have hmay := HG.out.may m (List.mem_of_getElem? hm)
      have HLen : Hid ((bet l.length 2 ++ bet k.length 2 ++ (l.take i).flatMap meRaw).length ≤ 100000) := Lib.hid (by
        simp only [List.length_append, bet_length, flat_mes, List.length_take]
        omega)
      clear hm
      go_wp2_with fail
      refine (hcall _ (decide_eq_true hmay)).mono ?_
      rintro e w5 ⟨y, rfl, hy, hb5⟩
      have HO5 := Lib.hid (HW.out.2.below hb5)
      have HB5 := Lib.hid (HW.out.1.trans (hb5.mono HW.out.1.size))
      have HY5 := Lib.hid hy.bs
      clear hcall hy hb5 hmay
      go_wp2_with (at_builtin; refine wpList_append_v _ byteT rfl _ _ rfl w1.heap.size _ _ rfl HO5.out _ _ rfl HY5.out (by rw [meRaw_length]; have := HLen.out; omega) HB5.out.size ?_)
      intro v6 w6 ho6 hg6 _
      have HO6 : Hid (Own w6 w1.heap.size 5 v6 (bet l.length 2 ++ bet k.length 2 ++ (l.take (i + 1)).flatMap meRaw)) := Lib.hid (by
        rw [HT.out, List.flatMap_append, List.flatMap_singleton, ← List.append_assoc]
        exact ho6)
      have HB6 := Lib.hid (HB5.out.grown hg6 HB5.out.size (fun z hz => HO5.out.ge z hz))
      clear ho6 hg6 HO5 HB5 HY5
      go_wp2_with fail
      go_roundg gk1
      case measure => omega
      case rel => exact ⟨i + 1, by omega, by go_num, Lib.hid ⟨HB6.out, HO6.out⟩⟩
    · have hil : i = l.length := by omega
      subst hil
      have HBW := Lib.hid HW.out.1
      have HOW := Lib.hid HW.out.2
      rw [List.take_length] at HOW
      clear HW hi hlt
      go_wp2_with fail
      go_loopg [3, 5] k.length (fun gk ov iv wr => ∃ i : Nat, i + gk = k.length ∧ iv = .int .i64 (i : Int) ∧ Hid (Below w1.heap.size w1 wr ∧ Own wr w1.heap.size 5 ov (bet l.length 2 ++ bet k.length 2 ++ l.flatMap meRaw ++ (k.take i).flatMap mkRaw)))
      case atStart => exact ⟨0, by omega, rfl, Lib.hid ⟨HBW.out, by simpa using HOW.out⟩⟩
      case round =>
        obtain ⟨i, hi, rfl, HW⟩ := hrel
        have hRw := HR0.out.below HW.out.1 HR0.out.lt
        have r0 := hRw.cell 0
        have r1 := hRw.cell 1
        simp at r0 r1
        clear hRw
        by_cases hlt : i < k.length
        · obtain ⟨gk1, hgk1⟩ : ∃ x, gk = x + 1 := ⟨gk - 1, by omega⟩
          obtain ⟨m, hm⟩ : ∃ m, k[i]? = some m := ⟨_, List.getElem?_eq_getElem hlt⟩
          obtain ⟨g, o, hA, hg, c0, c1, c2, hok⟩ := (SK.out.below HW.out.1).cells hm
          subst hA
          have a0 : (0 : Int) ≤ (i : Int) := by omega
          have a1 : (i : Int) < (k.length : Int) := by omega
          have HT : Hid (k.take (i + 1) = k.take i ++ [m]) := Lib.hid (by rw [List.take_add_one, hm]; rfl)
          have hcall := Bare_any m hok
          have hmay := HG.out.fair m (List.mem_of_getElem? hm)
          have HLen : Hid ((bet l.length 2 ++ bet k.length 2 ++ l.flatMap meRaw ++ (k.take i).flatMap mkRaw).length ≤ 100000) := Lib.hid (by
            simp only [List.length_append, bet_length, flat_mes, flat_mks, List.length_take]
            omega)
          clear hm
          go_wp2_with fail
          refine (hcall _ (decide_eq_true hmay)).mono ?_
          rintro e w5 ⟨y, rfl, hy, hb5⟩
          have HO5 := Lib.hid (HW.out.2.below hb5)
          have HB5 := Lib.hid (HW.out.1.trans (hb5.mono HW.out.1.size))
          have HY5 := Lib.hid hy.bs
          clear hcall hy hb5 hmay
          go_wp2_with (at_builtin; refine wpList_append_v _ byteT rfl _ _ rfl w1.heap.size _ _ rfl HO5.out _ _ rfl HY5.out (by rw [mkRaw_length]; have := HLen.out; omega) HB5.out.size ?_)
          intro v6 w6 ho6 hg6 _
          have HO6 : Hid (Own w6 w1.heap.size 5 v6 (bet l.length 2 ++ bet k.length 2 ++ l.flatMap meRaw ++ (k.take (i + 1)).flatMap mkRaw)) := Lib.hid (by
            rw [HT.out, List.flatMap_append, List.flatMap_singleton, ← List.append_assoc]
            simpa only [List.append_assoc] using ho6)
          have HB6 := Lib.hid (HB5.out.grown hg6 HB5.out.size (fun z hz => HO5.out.ge z hz))
          clear ho6 hg6 HO5 HB5 HY5
          go_wp2_with fail
          go_roundg gk1
          case measure => omega
          case rel => exact ⟨i + 1, by omega, by go_num, Lib.hid ⟨HB6.out, HO6.out⟩⟩
        · have hil : i = k.length := by omega
          subst hil
          have HBW := Lib.hid HW.out.1
          have HOW := Lib.hid HW.out.2
          rw [List.take_length] at HOW
          clear HW hi hlt
          have HLen : Hid ((bet l.length 2 ++ bet k.length 2 ++ l.flatMap meRaw ++ k.flatMap mkRaw).length ≤ 200000) := Lib.hid (by
            simp only [List.length_append, bet_length, flat_mes, flat_mks]
            omega)
          have hseal := fun u vv (hu : Bs u vv (bet l.length 2 ++ bet k.length 2 ++ l.flatMap meRaw ++ k.flatMap mkRaw)) => Seal_any _ vv u (by have := HLen.out; omega) hu
          go_wp2_with fail
          refine (hseal _ _ HOW.out.bs).mono ?_
          rintro e w7 ⟨y, rfl, hy, hb7⟩
          have HY := Lib.hid hy
          have HB7 := Lib.hid (HBW.out.trans (hb7.mono HBW.out.size))
          have HLO : Hid (w.heap.size ≤ _) := Lib.hid (Nat.le_trans (Nat.le_of_lt HWL.out) HBW.out.size)
          clear hy hb7 hseal
          go_wp2_with fail
          go_ret
          exact ⟨_, rfl, HY.out.lower HLO.out, HB0.out.trans (HB7.out.mono HB0.out.size)⟩

theorem num_take_le (b : List UInt8) (k : Nat) : num (b.take k) < 256 ^ k := Nat.lt_of_lt_of_le (num_lt _) (Nat.pow_le_pow_right (by omega) (by rw [List.length_take]; omega))

theorem meAt_ok (b : List UInt8) : (meAt b).ok := by
  have h0 := num_take_le (b.drop 0) 8
  have h3 := num_take_le (b.drop 24) 1
  have h4 := num_take_le (b.drop 25) 2
  have h5 := num_take_le (b.drop 27) 4
  exact okMe _ _ _ _ _ _ (Nat.lt_of_lt_of_le h0 (by decide)) (Nat.lt_of_lt_of_le h3 (by decide)) (Nat.lt_of_lt_of_le h4 (by decide)) (Nat.lt_of_lt_of_le h5 (by decide))

theorem mkAt_ok (b : List UInt8) : (mkAt b).ok := by
  have h0 := num_take_le (b.drop 0) 8
  have h2 := num_take_le (b.drop 16) 8
  have hw := wrap64_range (num ((b.drop 8).take 8) : Int)
  have e : (256 : Nat) ^ 8 = 18446744073709551616 := by decide
  rw [e] at h0 h2
  exact ⟨by simp only [mkAt]; omega, by simp only [mkAt]; omega, hw.1, hw.2, by simp only [mkAt]; omega, by simp only [mkAt]; omega⟩

theorem num_two {b : List UInt8} {x y : UInt8} (h0 : b[0]? = some x) (h1 : b[1]? = some y) : num (b.take 2) = 256 * x.toNat + y.toNat := by
  match b, h0, h1 with
  | a :: c :: r, h0, h1 =>
    simp at h0 h1
    subst h0 h1
    simp [num]
    omega
  | [_], _, h1 => simp at h1
  | [], h0, _ => simp at h0

theorem rosOf_no {b : List UInt8} (h : ¬ (4 ≤ b.length ∧ b.length = 4 + 31 * num (b.take 2) + 24 * num ((b.drop 2).take 2) ∧ RosG (mesAt b 4 (num (b.take 2))) (mksAt b (4 + 31 * num (b.take 2)) (num ((b.drop 2).take 2))))) : rosOf b = (2, [], []) := by
  rw [rosOf, if_neg h]

set_option maxHeartbeats 12800000 in
theorem DRoRead_any (x : List UInt8) (v : Value) (w : World) (hv : Bs w v x) (hl : x.length ≤ 100000000) :
    Calls Tryz.prog 23 #[v] w fun e w' => ∃ a b, e = .returned (.tuple #[roV a b, .int .i64 (rosX x).1]) ∧ Mes w' a (rosX x).2.1 ∧ Mks w' b (rosX x).2.2 ∧ Below w.heap.size w w' := by
  have hb0 : Below w.heap.size w (w.alloc (.cells #[.slice none 0 0, .slice none 0 0] 44)) := (Below.refl _ _).alloc (Nat.le_refl _) _
  have HR0 : Hid (Blk (w.alloc (.cells #[.slice none 0 0, .slice none 0 0] 44)) w.heap.size 44 #[.slice none 0 0, .slice none 0 0]) := Lib.hid (Blk.new _ _ _)
  have HV0 := Lib.hid (hv.below hb0)
  have HB0 := Lib.hid hb0
  clear hb0 hv
  by_cases h4 : x.length < 4
  · have HX : Hid (rosX x = (2, [], [])) := Lib.hid (by rw [rosX, if_pos h4])
    go_enter Tryz.func23, Tryz.ntmps23
    go_wp2_with fail
    revert HR0 HV0 HB0
    generalize w.alloc (.cells #[.slice none 0 0, .slice none 0 0] 44) = w0
    intro HR0 HV0 HB0
    refine (Open_short x v _ h4 HV0.out).mono ?_
    rintro e w1 ⟨rfl, rfl⟩
    have r0 := HR0.out.cell 0
    have r1 := HR0.out.cell 1
    have f0 := HR0.out.frozen 0
    have f1 := HR0.out.frozen 1
    simp at r0 r1
    go_wp2_with fail
    have hm2 := (HR0.out.set_ 0 (.slice none 0 0)).set_ 1 (.slice none 0 0)
    have hg2 := grown_trans (grown_set w0 w.heap.size 0 (.slice none 0 0)) (grown_set _ w.heap.size 1 (.slice none 0 0))
    refine bodyPost_ret (v := .tuple #[roV (.slice none 0 0) (.slice none 0 0), .int .i64 2]) (by have c := hm2.cell; simp [results, Tryz.results23, go_sem, c]; try rfl) rfl ?_
    rw [HX.out]
    exact ⟨_, _, rfl, Mes.nil _, Mks.nil _, HB0.out.grown hg2 HB0.out.size (by intro z hz; injection hz; omega)⟩
  by_cases hs : tailOf x = crcOf (bodyOf x)
  rotate_left
  · have HX : Hid (rosX x = (7, [], [])) := Lib.hid (by rw [rosX, if_neg h4, if_neg hs])
    have HS := Lib.hid hs
    clear hs
    go_enter Tryz.func23, Tryz.ntmps23
    go_wp2_with fail
    revert HR0 HV0 HB0
    generalize w.alloc (.cells #[.slice none 0 0, .slice none 0 0] 44) = w0
    intro HR0 HV0 HB0
    refine (Open_long x v _ (by omega) (by omega) HV0.out).mono ?_
    rintro e w1 ⟨y, f, rfl, hOp, hb1⟩
    obtain ⟨rfl, rfl⟩ := hOp.no HS.out
    have HR1 := Lib.hid (HR0.out.below hb1 HR0.out.lt)
    have HB1 := Lib.hid (HB0.out.trans (hb1.mono HB0.out.size))
    clear hOp hb1 HR0 HB0 HV0
    have r0 := HR1.out.cell 0
    have r1 := HR1.out.cell 1
    have f0 := HR1.out.frozen 0
    have f1 := HR1.out.frozen 1
    simp at r0 r1
    go_wp2_with fail
    have hm2 := (HR1.out.set_ 0 (.slice none 0 0)).set_ 1 (.slice none 0 0)
    have hg2 := grown_trans (grown_set w1 w.heap.size 0 (.slice none 0 0)) (grown_set _ w.heap.size 1 (.slice none 0 0))
    refine bodyPost_ret (v := .tuple #[roV (.slice none 0 0) (.slice none 0 0), .int .i64 7]) (by have c := hm2.cell; simp [results, Tryz.results23, go_sem, c]; try rfl) rfl ?_
    rw [HX.out]
    exact ⟨_, _, rfl, Mes.nil _, Mks.nil _, HB1.out.grown hg2 HB1.out.size (by intro z hz; injection hz; omega)⟩
  have hRX : rosX x = rosOf (bodyOf x) := by rw [rosX, if_neg h4, if_pos hs]
  have hO := fun u (hu : Bs u v x) => Open_long x v u (by omega) (by omega) hu
  have hcl := bodyOf_length x
  obtain ⟨c, hcb⟩ : ∃ c, bodyOf x = c := ⟨_, rfl⟩
  rw [hcb] at hcl hRX
  have HS := Lib.hid hs
  have HC := Lib.hid hcb
  have HRX := Lib.hid hRX
  have hcle : c.length ≤ 100000000 := by omega
  clear hcb hcl hRX hs h4 hl
  go_enter Tryz.func23, Tryz.ntmps23
  go_wp2_with fail
  revert HR0 HV0 HB0
  generalize w.alloc (.cells #[.slice none 0 0, .slice none 0 0] 44) = w0
  intro HR0 HV0 HB0
  refine (hO _ HV0.out).mono ?_
  rintro e w1 ⟨y, f, rfl, hOp, hb1⟩
  obtain ⟨rfl, hbs⟩ := hOp.yes HS.out
  rw [HC.out] at hbs
  have HR1 := Lib.hid (HR0.out.below hb1 HR0.out.lt)
  have HB1 := Lib.hid (HB0.out.trans (hb1.mono HB0.out.size))
  have HBs := Lib.hid hbs
  obtain ⟨A, cy, rfl, hc1, hc2, hr⟩ := hbs
  clear hO hOp hb1 HR0 HB0 HV0 HS HC
  by_cases hshort : c.length < 4
  · have HX : Hid (rosX x = (2, [], [])) := Lib.hid (by rw [HRX.out, rosOf_no fun h => by omega])
    clear hr
    have r0 := HR1.out.cell 0
    have r1 := HR1.out.cell 1
    have f0 := HR1.out.frozen 0
    have f1 := HR1.out.frozen 1
    simp at r0 r1
    go_wp2_with fail
    have hm2 := (HR1.out.set_ 0 (.slice none 0 0)).set_ 1 (.slice none 0 0)
    have hg2 := grown_trans (grown_set w1 w.heap.size 0 (.slice none 0 0)) (grown_set _ w.heap.size 1 (.slice none 0 0))
    refine bodyPost_ret (v := .tuple #[roV (.slice none 0 0) (.slice none 0 0), .int .i64 2]) (by have c := hm2.cell; simp [results, Tryz.results23, go_sem, c]; try rfl) rfl ?_
    rw [HX.out]
    exact ⟨_, _, rfl, Mes.nil _, Mks.nil _, HB1.out.grown hg2 HB1.out.size (by intro z hz; injection hz; omega)⟩
  obtain ⟨x0, h0⟩ : ∃ z, c[0]? = some z := ⟨_, List.getElem?_eq_getElem (by omega)⟩
  obtain ⟨x1, h1⟩ : ∃ z, c[1]? = some z := ⟨_, List.getElem?_eq_getElem (by omega)⟩
  obtain ⟨x2, h2⟩ : ∃ z, c[2]? = some z := ⟨_, List.getElem?_eq_getElem (by omega)⟩
  obtain ⟨x3, h3⟩ : ∃ z, c[3]? = some z := ⟨_, List.getElem?_eq_getElem (by omega)⟩
  have hnn : num (c.take 2) = 256 * x0.toNat + x1.toNat := num_two h0 h1
  have hkk : num ((c.drop 2).take 2) = 256 * x2.toNat + x3.toNat := num_two (by rw [List.getElem?_drop]; exact h2) (by rw [List.getElem?_drop]; exact h3)
  obtain ⟨gy, oy, rfl, hgy, hcy⟩ := HBs.out.cells (by intro e; rw [e] at hshort; simp at hshort)
  have b0 := hcy 0 x0 h0
  have b1 := hcy 1 x1 h1
  have b2 := hcy 2 x2 h2
  have b3 := hcy 3 x3 h3
  simp only [Nat.add_zero] at b0
  have hx0 := x0.toNat_lt
  have hx1 := x1.toNat_lt
  have hx2 := x2.toNat_lt
  have hx3 := x3.toNat_lt
  obtain ⟨n, hn⟩ : ∃ n, n = 256 * x0.toNat + x1.toNat := ⟨_, rfl⟩
  obtain ⟨k, hk⟩ : ∃ k, k = 256 * x2.toNat + x3.toNat := ⟨_, rfl⟩
  rw [← hn] at hnn
  rw [← hk] at hkk
  have hn' : (256 : Int) * (x0.toNat : Int) + (x1.toNat : Int) = (n : Int) := by omega
  have hk' : (256 : Int) * (x2.toNat : Int) + (x3.toNat : Int) = (k : Int) := by omega
  have HNN := Lib.hid hnn
  have HKK := Lib.hid hkk
  have hnb : n ≤ 65535 := by omega
  have hkb : k ≤ 65535 := by omega
  obtain ⟨L, hL⟩ : ∃ L, L = c.length := ⟨_, rfl⟩
  have HLc := Lib.hid hL
  have hL4 : 4 ≤ L := by omega
  have hLb : L ≤ 100000000 := by omega
  rw [← hL] at hc1 HBs ⊢
  have hi0 : 0 < L := by omega
  have hi1 : 1 < L := by omega
  have hi2 : 2 < L := by omega
  have hi3 : 3 < L := by omega
  have hL4i : decide ((L : Int) < 4) = false := decide_eq_false (by omega)
  clear h0 h1 h2 h3 hnn hkk hn hk hcy hshort hL hcle hL4
  by_cases hlen : L = 4 + 31 * n + 24 * k
  rotate_left
  · have hne : ((L : Int) != 4 + 31 * (n : Int) + 24 * (k : Int)) = true := by
      rw [bne_iff_ne]
      omega
    have HX : Hid (rosX x = (2, [], [])) := Lib.hid (by
      rw [HRX.out, rosOf_no fun h => hlen ?_]
      have := h.2.1
      rw [HNN.out, HKK.out, ← HLc.out] at this
      exact this)
    have r0 := HR1.out.cell 0
    have r1 := HR1.out.cell 1
    have f0 := HR1.out.frozen 0
    have f1 := HR1.out.frozen 1
    simp at r0 r1
    clear hlen
    go_wp2_with fail
    go_quiet (fail)
    revert nq
    intro nq1
    go_wp2_with fail
    go_quiet (fail)
    go_wp2_with fail
    have HR2 : Hid (Blk (w1.drewN (nq1 + nq)) w.heap.size 44 #[.slice none 0 0, .slice none 0 0]) := Lib.hid (HR1.out.drewN _)
    have HB2 : Hid (Below w.heap.size w (w1.drewN (nq1 + nq))) := Lib.hid (below_drewN HB1.out _)
    have hm2 := (HR2.out.set_ 0 (.slice none 0 0)).set_ 1 (.slice none 0 0)
    have hg2 := grown_trans (grown_set (w1.drewN (nq1 + nq)) w.heap.size 0 (.slice none 0 0)) (grown_set _ w.heap.size 1 (.slice none 0 0))
    refine bodyPost_ret (v := .tuple #[roV (.slice none 0 0) (.slice none 0 0), .int .i64 2]) (by have c := hm2.cell; simp [results, Tryz.results23, go_sem, c]; try rfl) rfl ?_
    rw [HX.out]
    exact ⟨_, _, rfl, Mes.nil _, Mks.nil _, HB2.out.grown hg2 HB2.out.size (by intro z hz; injection hz; omega)⟩
  have hne : ((L : Int) != 4 + 31 * (n : Int) + 24 * (k : Int)) = false := by
    rw [bne_eq_false_iff_eq]
    omega
  have HLN := Lib.hid hlen
  clear hlen
  go_wp2_with fail
  go_quiet (fail)
  revert nq
  intro nq1
  go_wp2_with fail
  go_quiet (fail)
  go_wp2_with fail
  obtain ⟨w2, hw2⟩ : ∃ z, z = w1.drewN (nq1 + nq) := ⟨_, rfl⟩
  have hb2 : Below w1.heap.size w1 w2 := by rw [hw2]; exact below_drewN (Below.refl _ _) _
  obtain ⟨g8, hg8⟩ : ∃ z, z = w2.heap.size := ⟨_, rfl⟩
  have hg8' : w1.heap.size = g8 := by rw [hg8, hw2]; rfl
  obtain ⟨w3, hw3⟩ : ∃ z, z = w2.alloc (.cells #[.slice none 0 0, .slice none 0 0] 44) := ⟨_, rfl⟩
  have HR8 : Hid (Blk w3 g8 44 #[.slice none 0 0, .slice none 0 0]) := Lib.hid (by rw [hw3, hg8]; exact Blk.new _ _ _)
  have hb3 : Below w1.heap.size w1 w3 := by rw [hw3]; exact hb2.alloc hb2.size _
  have HR3 := Lib.hid (HR1.out.below hb3 HR1.out.lt)
  have HB3 := Lib.hid (HB1.out.trans (hb3.mono HB1.out.size))
  have HBS3 : Hid (∀ u, Apt (fun q => g8 ≤ q) w3 u → Bs u (.slice (some ⟨gy, oy, none⟩) L cy) c) := Lib.hid fun u hu => HBs.out.below (hb3.trans ⟨hu.os, hu.tape, hu.output, hu.size, fun q hq => hu.block q (Nat.lt_of_lt_of_le hq hb3.size) (by omega)⟩)
  have HG8 : Hid (w.heap.size < g8) := Lib.hid (by rw [← hg8']; exact HR1.out.lt)
  rw [← hw2, ← hw3, hg8']
  clear hw2 hw3 hg8 hg8' hb2 hb3 HR1 HB1 HBs b0 b1 b2 b3 hr hgy w2 hn' hk' hx0 hx1 hx2 hx3
  go_loopg [9] n (fun gk iv wr => ∃ (i : Nat) (av : Value), i + gk = n ∧ iv = .int .i64 (i : Int) ∧ Hid (Apt (fun q => g8 ≤ q) w3 wr ∧ Blk wr g8 44 #[av, .slice none 0 0] ∧ OwnK 6 wr (g8 + 1) 84 (fun q => q < g8 + 1) MeC av (mesAt c 4 i)))
  case atStart => exact ⟨0, _, by omega, rfl, Lib.hid ⟨Apt.refl _ _, HR8.out, OwnK.nil _ _ _ _ _ _⟩⟩
  case round =>
    obtain ⟨i, av, hi, rfl, HW⟩ := hrel
    have hBw : Below w.heap.size w wr := below_apt HB3.out HW.out.1 (fun q hq => by have := HG8.out; omega) HB3.out.size
    have hRw : Blk wr w.heap.size 44 #[.slice none 0 0, .slice none 0 0] := (HW.out.1.block _ HR3.out.lt (by have := HG8.out; omega)).trans HR3.out
    have HBw := Lib.hid hBw
    have HRw := Lib.hid hRw
    clear hBw hRw
    by_cases hlt : i < n
    · obtain ⟨gk1, hgk1⟩ : ∃ x, gk = x + 1 := ⟨gk - 1, by omega⟩
      have hin : (i : Int) < (n : Int) := by omega
      have HBX := HBS3.out wr HW.out.1
      obtain ⟨A', c', e', h1', h2', hr'⟩ := HBX
      injection e' with e1 e2 e3
      subst e1 e3
      have hLn := HLN.out
      have hLc := HLc.out
      obtain ⟨V, hsV, hV, _⟩ := slice_bytes (P := Tryz.prog) wr byteT elemB hr' h1' h2' (4 + 31 * i) (35 + 31 * i) (by omega) (by omega) (4 + 31 * (i : Int)) (35 + 31 * (i : Int)) (by omega) (by omega)
      rw [← hLc] at hsV
      have e31 : 35 + 31 * i - (4 + 31 * i) = 31 := by omega
      rw [e31] at hV
      have hbl : ((c.drop (4 + 31 * i)).take 31).length = 31 := by
        rw [List.length_take, List.length_drop]
        omega
      have HBL := Lib.hid hbl
      have HV := Lib.hid hV
      clear h1' h2' hr' e2 hLn hLc e31 hbl hV
      go_wp2_with fail
      refine (Told_any _ HV.out (by rw [HBL.out]; omega)).mono ?_
      rintro e w4 ⟨m, ok, rfl, hmo, hb4⟩
      have HMO := Lib.hid hmo
      have hA4 := HW.out.1.trans (Apt.of_below hb4)
      have HA5 : Hid (Apt (fun q => g8 ≤ q) w3 (w4.alloc (.cells #[.int .u64 m.id, .int .i64 m.lv, .int .i64 m.st, .int .i64 m.en, .int .i64 m.pg, .int .i64 m.tr] 84))) := Lib.hid (hA4.trans (Apt.of_below ((Below.refl _ _).alloc (Nat.le_refl _) _)))
      have HB5 : Hid (Below wr.heap.size wr (w4.alloc (.cells #[.int .u64 m.id, .int .i64 m.lv, .int .i64 m.st, .int .i64 m.en, .int .i64 m.pg, .int .i64 m.tr] 84))) := Lib.hid (hb4.alloc hb4.size _)
      clear hmo hb4 hA4 hsV
      obtain ⟨mi, ml, ms, mn, mp, mt⟩ := m
      simp only [meV]
      simp only at HA5 HB5
      cases ok with
      | false =>
        have HX : Hid (rosX x = (2, [], [])) := Lib.hid (by
          rw [HRX.out, rosOf_no fun h => ?_]
          have hmem : meAt ((c.drop (4 + 31 * i)).take 31) ∈ mesAt c 4 (num (c.take 2)) := by
            rw [HNN.out, mesAt]
            exact List.mem_map.2 ⟨i, List.mem_range.2 hlt, rfl⟩
          have hp := h.2.2.may _ hmem
          have hmo := HMO.out
          rw [meOf, if_pos ⟨HBL.out, decide_eq_true hp⟩] at hmo
          cases (Prod.mk.inj hmo).1)
        have HR5 := Lib.hid (HRw.out.below HB5.out HRw.out.lt)
        have HB6 := Lib.hid (HBw.out.trans (HB5.out.mono HBw.out.size))
        have r0 := HR5.out.cell 0
        have r1 := HR5.out.cell 1
        have f0 := HR5.out.frozen 0
        have f1 := HR5.out.frozen 1
        simp at r0 r1
        clear HW HRw HBw HMO HA5
        go_wp2_with fail
        have hm2 := (HR5.out.set_ 0 (.slice none 0 0)).set_ 1 (.slice none 0 0)
        have hg2 := grown_trans (grown_set (w4.alloc (.cells #[.int .u64 mi, .int .i64 ml, .int .i64 ms, .int .i64 mn, .int .i64 mp, .int .i64 mt] 84)) w.heap.size 0 (.slice none 0 0)) (grown_set _ w.heap.size 1 (.slice none 0 0))
        refine bodyPost_ret (v := .tuple #[roV (.slice none 0 0) (.slice none 0 0), .int .i64 2]) (by have c := hm2.cell; simp [results, Tryz.results23, go_sem, c]; try rfl) rfl ?_
        rw [HX.out]
        exact ⟨_, _, rfl, Mes.nil _, Mks.nil _, HB6.out.grown hg2 HB6.out.size (by intro z hz; injection hz; omega)⟩
      | true =>
        have hmt := HMO.out
        have hmq : meAt ((c.drop (4 + 31 * i)).take 31) = ⟨mi, ml, ms, mn, mp, mt⟩ := by
          unfold meOf at hmt
          split at hmt
          · exact (Prod.mk.inj hmt).2
          · cases (Prod.mk.inj hmt).1
        have HMQ : Hid (mesAt c 4 (i + 1) = mesAt c 4 i ++ [⟨mi, ml, ms, mn, mp, mt⟩]) := Lib.hid (by rw [mesAt_succ, hmq])
        have HOKM : Hid (Me.ok ⟨mi, ml, ms, mn, mp, mt⟩) := Lib.hid (by rw [← hmq]; exact meAt_ok _)
        clear hmt hmq
        have hO5 := HW.out.2.2.below HB5.out
        have hR5 := HW.out.2.1.below HB5.out HW.out.2.1.lt
        clear HW HMO HRw HBw
        have hT5 : Blk (w4.alloc (.cells #[.int .u64 mi, .int .i64 ml, .int .i64 ms, .int .i64 mn, .int .i64 mp, .int .i64 mt] 84)) w4.heap.size 84 #[.int .u64 mi, .int .i64 ml, .int .i64 ms, .int .i64 mn, .int .i64 mp, .int .i64 mt] := Blk.new _ _ _
        obtain ⟨Aa, ca, rfl, _, _⟩ := hO5.form
        rw [mesAt_len] at hO5 hR5
        have hb6 : Below (w4.alloc (.cells #[.int .u64 mi, .int .i64 ml, .int .i64 ms, .int .i64 mn, .int .i64 mp, .int .i64 mt] 84)).heap.size (w4.alloc (.cells #[.int .u64 mi, .int .i64 ml, .int .i64 ms, .int .i64 mn, .int .i64 mp, .int .i64 mt] 84)) ((w4.alloc (.cells #[.int .u64 mi, .int .i64 ml, .int .i64 ms, .int .i64 mn, .int .i64 mp, .int .i64 mt] 84)).alloc (.cells #[.int .u64 mi, .int .i64 ml, .int .i64 ms, .int .i64 mn, .int .i64 mp, .int .i64 mt] 84)) := (Below.refl _ _).alloc (Nat.le_refl _) _
        have HO6 := Lib.hid (hO5.below hb6)
        have HR6 := Lib.hid (hR5.below hb6 hR5.lt)
        have HA6 := Lib.hid (HA5.out.trans (Apt.of_below hb6))
        have hlv := Lv.lit1 (w := (w4.alloc (.cells #[.int .u64 mi, .int .i64 ml, .int .i64 ms, .int .i64 mn, .int .i64 mp, .int .i64 mt] 84))) [.int .u64 mi, .int .i64 ml, .int .i64 ms, .int .i64 mn, .int .i64 mp, .int .i64 mt] 84
        simp only [World.size_alloc] at hlv
        have HLV := Lib.hid hlv
        have HY : Hid (Keep (fun q => q < g8 + 1 ∨ (Value.slice Aa i ca).ownBlock = some q) (fun u => MeC u ⟨mi, ml, ms, mn, mp, mt⟩ [.int .u64 mi, .int .i64 ml, .int .i64 ms, .int .i64 mn, .int .i64 mp, .int .i64 mt]) ((w4.alloc (.cells #[.int .u64 mi, .int .i64 ml, .int .i64 ms, .int .i64 mn, .int .i64 mp, .int .i64 mt] 84)).alloc (.cells #[.int .u64 mi, .int .i64 ml, .int .i64 ms, .int .i64 mn, .int .i64 mp, .int .i64 mt] 84))) := Lib.hid fun u _ => ⟨HOKM.out, rfl⟩
        have HSZ : Hid (g8 + 1 ≤ ((w4.alloc (.cells #[.int .u64 mi, .int .i64 ml, .int .i64 ms, .int .i64 mn, .int .i64 mp, .int .i64 mt] 84)).alloc (.cells #[.int .u64 mi, .int .i64 ml, .int .i64 ms, .int .i64 mn, .int .i64 mp, .int .i64 mt] 84)).heap.size) := Lib.hid HR6.out.lt
        have t0 := hT5.cell 0
        have t1 := hT5.cell 1
        have t2 := hT5.cell 2
        have t3 := hT5.cell 3
        have t4 := hT5.cell 4
        have t5 := hT5.cell 5
        have r0 := hR5.cell 0
        simp at t0 t1 t2 t3 t4 t5 r0
        have HLN6 : Hid ((mesAt c 4 i).length ≤ 1000000000) := Lib.hid (by rw [mesAt_len]; omega)
        clear hO5 hR5 hb6 HA5 HB5 hlv hT5
        go_wp2_with (at_builtin; refine wpList_append_K metaT rfl _ _ rfl rfl HO6.out rfl HLV.out HY.out (by simp [Value.oneCell']) HLN6.out (by decide) HSZ.out ?_)
        intro v7 w7 ho7 hg7 hv7
        obtain ⟨A7, c7, rfl, _, _⟩ := ho7.form
        rw [← HMQ.out, mesAt_len] at ho7 ⊢
        have hlo7 : ∀ q, (Value.slice Aa i ca).ownBlock = some q → g8 + 1 ≤ q := fun q hq => (HO6.out.lt q hq).1
        have hR7 := HR6.out.grown hg7 (fun e => by have := hlo7 g8 e.symm; omega)
        have hA7 : Apt (fun q => g8 ≤ q) w3 w7 := HA6.out.trans (Apt.of_grown hg7 fun q hq => by have := hlo7 q hq; omega)
        have hgr := grown_set w7 g8 0 (.slice A7 (i + 1) c7)
        have HA8 : Hid (Apt (fun q => g8 ≤ q) w3 (w7.setCell ⟨g8, 0, none⟩ (.slice A7 (i + 1) c7))) := Lib.hid (hA7.trans (Apt.of_grown hgr fun q hq => by have := Option.some.inj hq; omega))
        have HR8' : Hid (Blk (w7.setCell ⟨g8, 0, none⟩ (.slice A7 (i + 1) c7)) g8 44 #[.slice A7 (i + 1) c7, .slice none 0 0]) := Lib.hid (by
          have := hR7.set_ 0 (.slice A7 (i + 1) c7)
          simpa using this)
        have HO8 : Hid (OwnK 6 (w7.setCell ⟨g8, 0, none⟩ (.slice A7 (i + 1) c7)) (g8 + 1) 84 (fun q => q < g8 + 1) MeC (.slice A7 (i + 1) c7) (mesAt c 4 (i + 1))) := Lib.hid (ho7.kept hgr (by
          cases h4 : (Value.slice A7 (i + 1) c7).ownBlock with
          | none => exact .inl rfl
          | some z => exact .inr fun e => by have h1 := (ho7.lt z h4).1; have := Option.some.inj e; omega) (fun q hq => by have := Option.some.inj hq; omega) fun q hq => .inl hq)
        have r7 := hR7.cell 0
        have f7 := hR7.frozen 0
        simp at r7
        clear hlo7 hA7 hgr hR7 ho7 hg7 hv7 HO6 HR6 HA6 HLV HY HSZ t0 t1 t2 t3 t4 t5 r0 HLN6
        go_wp2_with fail
        go_roundg gk1
        case measure => omega
        case rel => exact ⟨i + 1, _, by omega, by go_num, Lib.hid ⟨HA8.out, HR8'.out, HO8.out⟩⟩
    · have hin : i = n := by omega
      subst hin
      obtain ⟨Aa, ca, rfl, _, _⟩ := HW.out.2.2.form
      rw [mesAt_len] at HW
      have HA1 := Lib.hid HW.out.1
      have HR81 := Lib.hid HW.out.2.1
      have HO1 := Lib.hid HW.out.2.2
      have hrow : (Value.slice Aa (mesAt c 4 i).length ca) = .slice Aa i ca := by rw [mesAt_len]
      try rw [hrow]
      clear HW HBw HRw hlt hi HR8 hrow
      go_wp2_with fail
      go_loopg [12] k (fun gk iv wr => ∃ (j : Nat) (bv : Value), j + gk = k ∧ iv = .int .i64 (j : Int) ∧ Hid (Apt (fun q => g8 ≤ q) w3 wr ∧ Blk wr g8 44 #[.slice Aa i ca, bv] ∧ OwnK 6 wr (g8 + 1) 84 (fun q => q < g8 + 1) MeC (.slice Aa i ca) (mesAt c 4 i) ∧ OwnK 3 wr (g8 + 1) 88 (fun q => q < g8 + 1) MkC bv (mksAt c (4 + 31 * i) j) ∧ ∀ q, (Value.slice Aa i ca).ownBlock = some q → bv.ownBlock ≠ some q))
      case atStart => exact ⟨0, _, by omega, rfl, Lib.hid ⟨HA1.out, HR81.out, HO1.out, OwnK.nil _ _ _ _ _ _, fun q _ h => by cases h⟩⟩
      case round =>
        obtain ⟨j, bv, hj, rfl, HW⟩ := hrel
        have hBw : Below w.heap.size w wr := below_apt HB3.out HW.out.1 (fun q hq => by have := HG8.out; omega) HB3.out.size
        have hRw : Blk wr w.heap.size 44 #[.slice none 0 0, .slice none 0 0] := (HW.out.1.block _ HR3.out.lt (by have := HG8.out; omega)).trans HR3.out
        have HBw := Lib.hid hBw
        have HRw := Lib.hid hRw
        clear hBw hRw HA1 HR81 HO1
        by_cases hlt : j < k
        · obtain ⟨gk1, hgk1⟩ : ∃ x, gk = x + 1 := ⟨gk - 1, by omega⟩
          have hjk : (j : Int) < (k : Int) := by omega
          have HBX := HBS3.out wr HW.out.1
          obtain ⟨A', c', e', h1', h2', hr'⟩ := HBX
          injection e' with e1 e2 e3
          subst e1 e3
          have hLn := HLN.out
          have hLc := HLc.out
          obtain ⟨V, hsV, hV, _⟩ := slice_bytes (P := Tryz.prog) wr byteT elemB hr' h1' h2' (4 + 31 * i + 24 * j) (4 + 31 * i + 24 * j + 24) (by omega) (by omega) (4 + 31 * (i : Int) + 24 * (j : Int)) (4 + 31 * (i : Int) + 24 * (j : Int) + 24) (by omega) (by omega)
          rw [← hLc] at hsV
          have e31 : 4 + 31 * i + 24 * j + 24 - (4 + 31 * i + 24 * j) = 24 := by omega
          rw [e31] at hV
          have hbl : ((c.drop (4 + 31 * i + 24 * j)).take 24).length = 24 := by
            rw [List.length_take, List.length_drop]
            omega
          have HBL := Lib.hid hbl
          have HV := Lib.hid hV
          clear h1' h2' hr' e2 hLn hLc e31 hbl hV
          go_wp2_with fail
          refine (Stood_any _ HV.out (by rw [HBL.out]; omega)).mono ?_
          rintro e w4 ⟨m, ok, rfl, hmo, hb4⟩
          have HMO := Lib.hid hmo
          have hA4 := HW.out.1.trans (Apt.of_below hb4)
          obtain ⟨mi, ma, mb⟩ := m
          have HA5 : Hid (Apt (fun q => g8 ≤ q) w3 (w4.alloc (.cells #[.int .u64 mi, .int .i64 ma, .int .u64 mb] 88))) := Lib.hid (hA4.trans (Apt.of_below ((Below.refl _ _).alloc (Nat.le_refl _) _)))
          have HB5 : Hid (Below wr.heap.size wr (w4.alloc (.cells #[.int .u64 mi, .int .i64 ma, .int .u64 mb] 88))) := Lib.hid (hb4.alloc hb4.size _)
          clear hmo hb4 hA4 hsV
          simp only [mkV]
          cases ok with
          | false =>
            have HX : Hid (rosX x = (2, [], [])) := Lib.hid (by
              rw [HRX.out, rosOf_no fun h => ?_]
              have hmem : mkAt ((c.drop (4 + 31 * i + 24 * j)).take 24) ∈ mksAt c (4 + 31 * num (c.take 2)) (num ((c.drop 2).take 2)) := by
                rw [HNN.out, HKK.out, mksAt]
                exact List.mem_map.2 ⟨j, List.mem_range.2 hlt, rfl⟩
              have hp := h.2.2.fair _ hmem
              have hmo := HMO.out
              rw [mkOf, if_pos ⟨HBL.out, decide_eq_true hp⟩] at hmo
              cases (Prod.mk.inj hmo).1)
            have HR5 := Lib.hid (HRw.out.below HB5.out HRw.out.lt)
            have HB6 := Lib.hid (HBw.out.trans (HB5.out.mono HBw.out.size))
            have r0 := HR5.out.cell 0
            have r1 := HR5.out.cell 1
            have f0 := HR5.out.frozen 0
            have f1 := HR5.out.frozen 1
            simp at r0 r1
            clear HW HRw HBw HMO HA5
            go_wp2_with fail
            have hm2 := (HR5.out.set_ 0 (.slice none 0 0)).set_ 1 (.slice none 0 0)
            have hg2 := grown_trans (grown_set (w4.alloc (.cells #[.int .u64 mi, .int .i64 ma, .int .u64 mb] 88)) w.heap.size 0 (.slice none 0 0)) (grown_set _ w.heap.size 1 (.slice none 0 0))
            refine bodyPost_ret (v := .tuple #[roV (.slice none 0 0) (.slice none 0 0), .int .i64 2]) (by have c := hm2.cell; simp [results, Tryz.results23, go_sem, c]; try rfl) rfl ?_
            rw [HX.out]
            exact ⟨_, _, rfl, Mes.nil _, Mks.nil _, HB6.out.grown hg2 HB6.out.size (by intro z hz; injection hz; omega)⟩
          | true =>
            have hmt := HMO.out
            have hmq : mkAt ((c.drop (4 + 31 * i + 24 * j)).take 24) = ⟨mi, ma, mb⟩ := by
              unfold mkOf at hmt
              split at hmt
              · exact (Prod.mk.inj hmt).2
              · cases (Prod.mk.inj hmt).1
            have HMQ : Hid (mksAt c (4 + 31 * i) (j + 1) = mksAt c (4 + 31 * i) j ++ [⟨mi, ma, mb⟩]) := Lib.hid (by rw [mksAt_succ, hmq])
            have HOKM : Hid (Mk.ok ⟨mi, ma, mb⟩) := Lib.hid (by rw [← hmq]; exact mkAt_ok _)
            clear hmt hmq
            have hP5 := HW.out.2.2.1.below HB5.out
            have hO5 := HW.out.2.2.2.1.below HB5.out
            have hR5 := HW.out.2.1.below HB5.out HW.out.2.1.lt
            have HNE := Lib.hid HW.out.2.2.2.2
            clear HW HMO HRw HBw
            have hT5 : Blk (w4.alloc (.cells #[.int .u64 mi, .int .i64 ma, .int .u64 mb] 88)) w4.heap.size 88 #[.int .u64 mi, .int .i64 ma, .int .u64 mb] := Blk.new _ _ _
            obtain ⟨Ab, cb, rfl, _, _⟩ := hO5.form
            rw [mksAt_len] at hO5 hR5 HNE
            have hb6 : Below (w4.alloc (.cells #[.int .u64 mi, .int .i64 ma, .int .u64 mb] 88)).heap.size (w4.alloc (.cells #[.int .u64 mi, .int .i64 ma, .int .u64 mb] 88)) ((w4.alloc (.cells #[.int .u64 mi, .int .i64 ma, .int .u64 mb] 88)).alloc (.cells #[.int .u64 mi, .int .i64 ma, .int .u64 mb] 88)) := (Below.refl _ _).alloc (Nat.le_refl _) _
            have HP6 := Lib.hid (hP5.below hb6)
            have HO6 := Lib.hid (hO5.below hb6)
            have HR6 := Lib.hid (hR5.below hb6 hR5.lt)
            have HA6 := Lib.hid (HA5.out.trans (Apt.of_below hb6))
            have hlv := Lv.lit1 (w := (w4.alloc (.cells #[.int .u64 mi, .int .i64 ma, .int .u64 mb] 88))) [.int .u64 mi, .int .i64 ma, .int .u64 mb] 88
            simp only [World.size_alloc] at hlv
            have HLV := Lib.hid hlv
            have HY : Hid (Keep (fun q => q < g8 + 1 ∨ (Value.slice Ab j cb).ownBlock = some q) (fun u => MkC u ⟨mi, ma, mb⟩ [.int .u64 mi, .int .i64 ma, .int .u64 mb]) ((w4.alloc (.cells #[.int .u64 mi, .int .i64 ma, .int .u64 mb] 88)).alloc (.cells #[.int .u64 mi, .int .i64 ma, .int .u64 mb] 88))) := Lib.hid fun u _ => ⟨HOKM.out, rfl⟩
            have HSZ : Hid (g8 + 1 ≤ ((w4.alloc (.cells #[.int .u64 mi, .int .i64 ma, .int .u64 mb] 88)).alloc (.cells #[.int .u64 mi, .int .i64 ma, .int .u64 mb] 88)).heap.size) := Lib.hid HR6.out.lt
            have t0 := hT5.cell 0
            have t1 := hT5.cell 1
            have t2 := hT5.cell 2
            have r1 := hR5.cell 1
            simp at t0 t1 t2 r1
            have HLN6 : Hid ((mksAt c (4 + 31 * i) j).length ≤ 1000000000) := Lib.hid (by rw [mksAt_len]; omega)
            clear hP5 hO5 hR5 hb6 HA5 HB5 hlv hT5
            go_wp2_with (at_builtin; refine wpList_append_K markT rfl _ _ rfl rfl HO6.out rfl HLV.out HY.out (by simp [Value.oneCell']) HLN6.out (by decide) HSZ.out ?_)
            intro v7 w7 ho7 hg7 hv7
            obtain ⟨A7, c7, rfl, _, _⟩ := ho7.form
            rw [← HMQ.out, mksAt_len] at ho7 hv7 ⊢
            have hlo7 : ∀ q, (Value.slice Ab j cb).ownBlock = some q → g8 + 1 ≤ q := fun q hq => (HO6.out.lt q hq).1
            have hR7 := HR6.out.grown hg7 (fun e => by have := hlo7 g8 e.symm; omega)
            have hA7 : Apt (fun q => g8 ≤ q) w3 w7 := HA6.out.trans (Apt.of_grown hg7 fun q hq => by have := hlo7 q hq; omega)
            have hP7 : OwnK 6 w7 (g8 + 1) 84 (fun q => q < g8 + 1) MeC (.slice Aa i ca) (mesAt c 4 i) := by
              obtain ⟨xs, o1, o2⟩ := HP6.out
              exact ⟨xs, o1.kept hg7 (by
                cases h4 : (Value.slice Aa i ca).ownBlock with
                | none => exact .inl rfl
                | some z => exact .inr fun e => HNE.out z h4 e.symm), o2.mono fun _ _ hk u _ => hk.here⟩
            have hgr := grown_set w7 g8 1 (.slice A7 (j + 1) c7)
            have HA8 : Hid (Apt (fun q => g8 ≤ q) w3 (w7.setCell ⟨g8, 1, none⟩ (.slice A7 (j + 1) c7))) := Lib.hid (hA7.trans (Apt.of_grown hgr fun q hq => by have := Option.some.inj hq; omega))
            have HR8' : Hid (Blk (w7.setCell ⟨g8, 1, none⟩ (.slice A7 (j + 1) c7)) g8 44 #[.slice Aa i ca, .slice A7 (j + 1) c7]) := Lib.hid (by
              have := hR7.set_ 1 (.slice A7 (j + 1) c7)
              simpa using this)
            have HO8 : Hid (OwnK 3 (w7.setCell ⟨g8, 1, none⟩ (.slice A7 (j + 1) c7)) (g8 + 1) 88 (fun q => q < g8 + 1) MkC (.slice A7 (j + 1) c7) (mksAt c (4 + 31 * i) (j + 1))) := Lib.hid (ho7.kept hgr (by
              cases h4 : (Value.slice A7 (j + 1) c7).ownBlock with
              | none => exact .inl rfl
              | some z => exact .inr fun e => by have h1 := (ho7.lt z h4).1; have := Option.some.inj e; omega) (fun q hq => by have := Option.some.inj hq; omega) fun q hq => .inl hq)
            have HP8 : Hid (OwnK 6 (w7.setCell ⟨g8, 1, none⟩ (.slice A7 (j + 1) c7)) (g8 + 1) 84 (fun q => q < g8 + 1) MeC (.slice Aa i ca) (mesAt c 4 i)) := Lib.hid (hP7.kept hgr (by
              cases h4 : (Value.slice Aa i ca).ownBlock with
              | none => exact .inl rfl
              | some z => exact .inr fun e => by have h1 := (hP7.lt z h4).1; have := Option.some.inj e; omega) (fun q hq => by have := Option.some.inj hq; omega) fun q hq => .inl hq)
            have HN8 : Hid (∀ q, (Value.slice Aa i ca).ownBlock = some q → (Value.slice A7 (j + 1) c7).ownBlock ≠ some q) := Lib.hid fun q hq e => by
              rcases hv7 with h | h
              · exact HNE.out q hq (h ▸ e)
              · rw [h] at e
                have h1 := Option.some.inj e
                have h2 := (HP6.out.lt q hq).2
                try simp only [World.size_alloc] at h1 h2
                omega
            have r7 := hR7.cell 1
            have f7 := hR7.frozen 1
            simp at r7
            clear hlo7 hA7 hgr hR7 ho7 hg7 hv7 hP7 HO6 HP6 HR6 HA6 HLV HY HSZ t0 t1 t2 r1 HLN6 HNE
            go_wp2_with fail
            go_roundg gk1
            case measure => omega
            case rel => exact ⟨j + 1, _, by omega, by go_num, Lib.hid ⟨HA8.out, HR8'.out, HP8.out, HO8.out, HN8.out⟩⟩
        · have hjk : j = k := by omega
          subst hjk
          obtain ⟨Ab, cb, rfl, _, _⟩ := HW.out.2.2.2.1.form
          rw [mksAt_len] at HW
          have hrow : (Value.slice Ab (mksAt c (4 + 31 * i) j).length cb) = .slice Ab j cb := by rw [mksAt_len]
          try rw [hrow]
          have r0 := HW.out.2.1.cell 0
          have r1 := HW.out.2.1.cell 1
          have hR := HRw.out
          have hML : Mes wr (.slice Aa i ca) (mesAt c 4 i) := HW.out.2.2.1.lv
          have hMK : Mks wr (.slice Ab j cb) (mksAt c (4 + 31 * i) j) := HW.out.2.2.2.1.lv
          have hgood := DGood_any _ _ _ _ wr hML hMK
          have HPA := Lib.hid HW.out.2.2.1
          have HPB := Lib.hid HW.out.2.2.2.1
          have HR8w := Lib.hid HW.out.2.1
          simp at r0 r1
          clear hML hMK HW hlt hj hrow hR
          cases hgd : goodB (mesAt c 4 i) (mksAt c (4 + 31 * i) j) with
          | false =>
            rw [hgd] at hgood
            have HX : Hid (rosX x = (2, [], [])) := Lib.hid (by
              rw [HRX.out, rosOf_no fun h => ?_]
              have hr := h.2.2
              rw [HNN.out, HKK.out] at hr
              rw [goodB_yes hr] at hgd
              cases hgd)
            clear hgd
            go_wp2_with fail
            refine hgood.mono ?_
            rintro e w5 ⟨rfl, hb5⟩
            have HR5 := Lib.hid (HRw.out.below hb5 HRw.out.lt)
            have HB6 := Lib.hid (HBw.out.trans (hb5.mono HBw.out.size))
            have s0 := HR5.out.cell 0
            have s1 := HR5.out.cell 1
            have f0 := HR5.out.frozen 0
            have f1 := HR5.out.frozen 1
            simp at s0 s1
            clear hgood hb5 r0 r1
            go_wp2_with fail
            have hm2 := (HR5.out.set_ 0 (.slice none 0 0)).set_ 1 (.slice none 0 0)
            have hg2 := grown_trans (grown_set (w5) w.heap.size 0 (.slice none 0 0)) (grown_set _ w.heap.size 1 (.slice none 0 0))
            refine bodyPost_ret (v := .tuple #[roV (.slice none 0 0) (.slice none 0 0), .int .i64 2]) (by have c := hm2.cell; simp [results, Tryz.results23, go_sem, c]; try rfl) rfl ?_
            rw [HX.out]
            exact ⟨_, _, rfl, Mes.nil _, Mks.nil _, HB6.out.grown hg2 HB6.out.size (by intro z hz; injection hz; omega)⟩
          | true =>
            rw [hgd] at hgood
            have HX : Hid (rosX x = (0, mesAt c 4 i, mksAt c (4 + 31 * i) j)) := Lib.hid (by
              have hr : RosG (mesAt c 4 i) (mksAt c (4 + 31 * i) j) := Classical.byContradiction fun h => by
                rw [goodB_no h] at hgd
                cases hgd
              rw [HRX.out, rosOf, HNN.out, HKK.out, if_pos ⟨by have := HLc.out; have := HLN.out; omega, by rw [← HLc.out]; exact HLN.out, hr⟩])
            clear hgd
            go_wp2_with fail
            refine hgood.mono ?_
            rintro e w5 ⟨rfl, hb5⟩
            have HR5 := Lib.hid (HRw.out.below hb5 HRw.out.lt)
            have HB6 := Lib.hid (HBw.out.trans (hb5.mono HBw.out.size))
            have HPA5 := Lib.hid (HPA.out.below hb5)
            have HPB5 := Lib.hid (HPB.out.below hb5)
            have hR8 := HR8w.out.below hb5 HR8w.out.lt
            have t0 := hR8.cell 0
            have t1 := hR8.cell 1
            have s0 := HR5.out.cell 0
            have s1 := HR5.out.cell 1
            have f0 := HR5.out.frozen 0
            have f1 := HR5.out.frozen 1
            simp at s0 s1 t0 t1
            clear hgood hb5 r0 r1 hR8
            go_wp2_with fail
            have hm2 := (HR5.out.set_ 0 (.slice Aa i ca)).set_ 1 (.slice Ab j cb)
            have hg2 := grown_trans (grown_set w5 w.heap.size 0 (.slice Aa i ca)) (grown_set _ w.heap.size 1 (.slice Ab j cb))
            refine bodyPost_ret (v := .tuple #[roV (.slice Aa i ca) (.slice Ab j cb), .int .i64 0]) (by have c := hm2.cell; simp [results, Tryz.results23, go_sem, c]; try rfl) rfl ?_
            rw [HX.out]
            refine ⟨_, _, rfl, OwnK.lv (HPA5.out.kept (bad' := fun q => q < g8 + 1) hg2 (by
              cases h4 : (Value.slice Aa i ca).ownBlock with
              | none => exact .inl rfl
              | some z => exact .inr fun e => by have h1 := (HPA5.out.lt z h4).1; have := Option.some.inj e; have := HG8.out; omega) (fun q hq => by have := Option.some.inj hq; have := HG8.out; omega) fun q hq => .inl hq), OwnK.lv (HPB5.out.kept (bad' := fun q => q < g8 + 1) hg2 (by
              cases h4 : (Value.slice Ab j cb).ownBlock with
              | none => exact .inl rfl
              | some z => exact .inr fun e => by have h1 := (HPB5.out.lt z h4).1; have := Option.some.inj e; have := HG8.out; omega) (fun q hq => by have := Option.some.inj hq; have := HG8.out; omega) fun q hq => .inl hq), HB6.out.grown hg2 HB6.out.size (by intro z hz; injection hz; omega)⟩

end Go.Proofs.YtmlemclehfdneaaGreatDoor

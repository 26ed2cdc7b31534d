/-
  ROSTERS in memory: slices of metas, of markers; CONTRACTS of the document's Ids, Metas, Same (of what is the same), Good, Bytes. Conditions: what each says.
  ROSTERS: CONTRACTS of the document's Bytes, Read. Conditions: what each says.
  ROSTERS: CONTRACT of the document's Read. Conditions: what it says.
-/
import Derived.Test.YtgafidnbmoomiaaGreatDoorRoA
namespace Go.Proofs.YtgafidnbmoomiaaGreatDoor
open Go.RowKit
set_option maxRecDepth 100000

def MeC (_ : World) (m : Me) (x : List Value) : Prop := m.ok ∧ x = [.int .u64 m.id, .int .i64 m.lv, .int .i64 m.st, .int .i64 m.en, .int .i64 m.pg, .int .i64 m.tr]

def MkC (_ : World) (m : Mk) (x : List Value) : Prop := m.ok ∧ x = [.int .u64 m.id, .int .i64 m.at_, .int .u64 m.by_]

def Mes (w : World) (v : Value) (l : List Me) : Prop := ∃ xs, Lv 6 w v xs ∧ Two (MeC w) l xs

def Mks (w : World) (v : Value) (l : List Mk) : Prop := ∃ xs, Lv 3 w v xs ∧ Two (MkC w) l xs

theorem metaT : ElemT Tryz.prog 35 85 6 48 := ⟨Tryz.underlying35, by omega, by
  refine ⟨_, _, rfl, rfl, rfl, rfl, ?_⟩
  rfl⟩

theorem markT : ElemT Tryz.prog 36 89 3 24 := ⟨Tryz.underlying36, by omega, by
  refine ⟨_, _, rfl, rfl, rfl, rfl, ?_⟩
  rfl⟩

section
variable {w w' : World} {v : Value}

theorem Mes.nil (w : World) : Mes w (.slice none 0 0) [] := ⟨[], Lv.nil 6 w, Two.nil⟩

theorem Mks.nil (w : World) : Mks w (.slice none 0 0) [] := ⟨[], Lv.nil 3 w, Two.nil⟩

theorem Mes.below {l : List Me} (h : Mes w v l) (hb : Below w.heap.size w w') : Mes w' v l := by
  obtain ⟨xs, h1, h2⟩ := h
  exact ⟨xs, h1.below hb, h2.mono fun _ _ h => h⟩

theorem Mks.below {l : List Mk} (h : Mks w v l) (hb : Below w.heap.size w w') : Mks w' v l := by
  obtain ⟨xs, h1, h2⟩ := h
  exact ⟨xs, h1.below hb, h2.mono fun _ _ h => h⟩

theorem Mes.form {l : List Me} (h : Mes w v l) : ∃ A c, v = .slice A l.length c ∧ l.length ≤ c ∧ c ≤ 9223372036854775807 := by
  obtain ⟨xs, h1, h2⟩ := h
  obtain ⟨A, c, hv, h3, h4⟩ := h1.form
  rw [← h2.len] at hv h3
  exact ⟨A, c, hv, h3, h4⟩

theorem Mks.form {l : List Mk} (h : Mks w v l) : ∃ A c, v = .slice A l.length c ∧ l.length ≤ c ∧ c ≤ 9223372036854775807 := by
  obtain ⟨xs, h1, h2⟩ := h
  obtain ⟨A, c, hv, h3, h4⟩ := h1.form
  rw [← h2.len] at hv h3
  exact ⟨A, c, hv, h3, h4⟩

theorem Mes.ok {l : List Me} (h : Mes w v l) : ∀ m ∈ l, m.ok := fun m hm => by
  obtain ⟨xs, h1, h2⟩ := h
  obtain ⟨i, hi⟩ := List.getElem?_of_mem hm
  obtain ⟨x, _, ho, _⟩ := h2.right hi
  exact ho

theorem Mks.ok {l : List Mk} (h : Mks w v l) : ∀ m ∈ l, m.ok := fun m hm => by
  obtain ⟨xs, h1, h2⟩ := h
  obtain ⟨i, hi⟩ := List.getElem?_of_mem hm
  obtain ⟨x, _, ho, _⟩ := h2.right hi
  exact ho

theorem Mes.cells {A : Option Addr} {n c : Nat} {l : List Me} (h : Mes w (.slice A n c) l) {i : Nat} {m : Me} (hi : l[i]? = some m) :
    ∃ g o, A = some ⟨g, o, none⟩ ∧ g < w.heap.size ∧ w.cell? ⟨g, o + i * 6, none⟩ = some (.int .u64 m.id) ∧ w.cell? ⟨g, o + i * 6 + 1, none⟩ = some (.int .i64 m.lv) ∧ w.cell? ⟨g, o + i * 6 + 2, none⟩ = some (.int .i64 m.st) ∧ w.cell? ⟨g, o + i * 6 + 3, none⟩ = some (.int .i64 m.en) ∧ w.cell? ⟨g, o + i * 6 + 4, none⟩ = some (.int .i64 m.pg) ∧ w.cell? ⟨g, o + i * 6 + 5, none⟩ = some (.int .i64 m.tr) ∧ m.ok := by
  obtain ⟨xs, h1, h2⟩ := h
  obtain ⟨x, hx, ho, rfl⟩ := h2.right hi
  obtain ⟨g, o, hA, hg, hc⟩ := h1.cells (by omega) hx
  exact ⟨g, o, hA, hg, hc 0 _ rfl, hc 1 _ rfl, hc 2 _ rfl, hc 3 _ rfl, hc 4 _ rfl, hc 5 _ rfl, ho⟩

theorem Mks.cells {A : Option Addr} {n c : Nat} {l : List Mk} (h : Mks w (.slice A n c) l) {i : Nat} {m : Mk} (hi : l[i]? = some m) :
    ∃ g o, A = some ⟨g, o, none⟩ ∧ g < w.heap.size ∧ w.cell? ⟨g, o + i * 3, none⟩ = some (.int .u64 m.id) ∧ w.cell? ⟨g, o + i * 3 + 1, none⟩ = some (.int .i64 m.at_) ∧ w.cell? ⟨g, o + i * 3 + 2, none⟩ = some (.int .u64 m.by_) ∧ m.ok := by
  obtain ⟨xs, h1, h2⟩ := h
  obtain ⟨x, hx, ho, rfl⟩ := h2.right hi
  obtain ⟨g, o, hA, hg, hc⟩ := h1.cells (by omega) hx
  exact ⟨g, o, hA, hg, hc 0 _ rfl, hc 1 _ rfl, hc 2 _ rfl, ho⟩

end

theorem Metas_same (v v' : Value) (l : List Me) (w : World) (h : Mes w v l) (h' : Mes w v' l) :
    Calls Tryz.prog 38 #[v, v'] w fun e w' => e = .returned (.bool true) ∧ Below w.heap.size w w' := by
  have SL := Lib.hid h
  have SR := Lib.hid h'
  obtain ⟨A, c, rfl, hc1, hc2⟩ := h.form
  obtain ⟨A', c', rfl, hc1', hc2'⟩ := h'.form
  clear h h'
  go_enter Tryz.func38, Tryz.ntmps38
  go_wp2_with fail
  go_loopg [5] l.length (fun gk iv wr => ∃ k : Nat, k + gk = l.length ∧ iv = .int .i64 (k : Int) ∧ Hid (Below w.heap.size w wr))
  case atStart => exact ⟨0, by omega, rfl, Lib.hid (Below.refl _ _)⟩
  case round =>
    obtain ⟨k, hk, rfl, HB⟩ := hrel
    by_cases hlt : k < l.length
    · obtain ⟨gk1, hgk1⟩ : ∃ x, gk = x + 1 := ⟨gk - 1, by omega⟩
      obtain ⟨t, hkt⟩ : ∃ t, l[k]? = some t := ⟨_, List.getElem?_eq_getElem hlt⟩
      obtain ⟨g, o, rfl, hg, c0, c1, c2, c3, c4, c5, _⟩ := (SL.out.below HB.out).cells hkt
      obtain ⟨g', o', rfl, hg', x0, x1, x2, x3, x4, x5, _⟩ := (SR.out.below HB.out).cells hkt
      have hb0 : (0 : Int) ≤ (k : Int) := by omega
      have hb1 : (k : Int) < (l.length : Int) := by omega
      clear hkt
      go_wp2_with fail
      go_quiet (fail)
      go_wp2_with fail
      go_roundg gk1
      case measure => omega
      case rel => exact ⟨k + 1, by omega, by go_num, Lib.hid (below_drewN HB.out _)⟩
    · have hkn : k = l.length := by omega
      go_wp2_with fail
      go_ret
      exact ⟨rfl, HB.out⟩

abbrev roV (a b : Value) : Value := .agg #[a, b]

theorem Same_same (a a' b b' : Value) (l : List Me) (k : List Mk) (w : World) (h : Mes w a l) (h' : Mes w a' l) (q : Mks w b k) (q' : Mks w b' k) :
    Calls Tryz.prog 18 #[roV a b, roV a' b'] w fun e w' => e = .returned (.bool true) ∧ Below w.heap.size w w' := by
  have HM := Lib.hid fun (u : World) (hu : Below w.heap.size w u) => Metas_same a a' l u (h.below hu) (h'.below hu)
  have SL := Lib.hid q
  have SR := Lib.hid q'
  obtain ⟨Aa, ca, rfl, _, _⟩ := h.form
  obtain ⟨Ab, cb, rfl, _, _⟩ := h'.form
  obtain ⟨A, c, rfl, hc1, hc2⟩ := q.form
  obtain ⟨A', c', rfl, hc1', hc2'⟩ := q'.form
  clear h h' q q'
  have hb0 : Below w.heap.size w ((w.alloc (.cells #[.slice Aa l.length ca, .slice A k.length c] 38)).alloc (.cells #[.slice Ab l.length cb, .slice A' k.length c'] 38)) := ((Below.refl _ _).alloc (Nat.le_refl _) _).alloc (by simp) _
  have HR0 : Hid (Blk ((w.alloc (.cells #[.slice Aa l.length ca, .slice A k.length c] 38)).alloc (.cells #[.slice Ab l.length cb, .slice A' k.length c'] 38)) w.heap.size 38 #[.slice Aa l.length ca, .slice A k.length c]) := Lib.hid ((Blk.new w _ _).alloc _)
  have HR1 : Hid (Blk ((w.alloc (.cells #[.slice Aa l.length ca, .slice A k.length c] 38)).alloc (.cells #[.slice Ab l.length cb, .slice A' k.length c'] 38)) (w.heap.size + 1) 38 #[.slice Ab l.length cb, .slice A' k.length c']) := Lib.hid (by
    have := Blk.new (w.alloc (.cells #[.slice Aa l.length ca, .slice A k.length c] 38)) 38 #[.slice Ab l.length cb, .slice A' k.length c']
    simpa using this)
  have HB0 := Lib.hid hb0
  clear hb0
  go_enter Tryz.func18, Tryz.ntmps18
  go_wp2_with fail
  revert HR0 HR1 HB0
  generalize (w.alloc (.cells #[.slice Aa l.length ca, .slice A k.length c] 38)).alloc (.cells #[.slice Ab l.length cb, .slice A' k.length c'] 38) = w0
  intro HR0 HR1 HB0
  refine (HM.out _ HB0.out).mono ?_
  rintro e w1 ⟨rfl, hb1⟩
  have HB1 := Lib.hid (HB0.out.trans (hb1.mono HB0.out.size))
  have HR2 := Lib.hid (HR0.out.below hb1 HR0.out.lt)
  have HR3 := Lib.hid (HR1.out.below hb1 HR1.out.lt)
  have x1 := HR2.out.cell 1
  have y1 := HR3.out.cell 1
  simp at x1 y1
  clear hb1 HM HR0 HR1 HB0
  go_wp2_with fail
  go_loopg [6] k.length (fun gk iv wr => ∃ i : Nat, i + gk = k.length ∧ iv = .int .i64 (i : Int) ∧ Hid (Below w1.heap.size w1 wr))
  case atStart => exact ⟨0, by omega, rfl, Lib.hid (Below.refl _ _)⟩
  case round =>
    obtain ⟨i, hi, rfl, HB⟩ := hrel
    have z1 := (HB.out.cell (World.block_lt_of_cell? w1 _ x1)).trans x1
    have z2 := (HB.out.cell (World.block_lt_of_cell? w1 _ y1)).trans y1
    by_cases hlt : i < k.length
    · obtain ⟨gk1, hgk1⟩ : ∃ x, gk = x + 1 := ⟨gk - 1, by omega⟩
      obtain ⟨t, hkt⟩ : ∃ t, k[i]? = some t := ⟨_, List.getElem?_eq_getElem hlt⟩
      obtain ⟨g, o, rfl, hg, c0, c1, c2, _⟩ := (SL.out.below (HB1.out.trans (HB.out.mono HB1.out.size))).cells hkt
      obtain ⟨g', o', rfl, hg', v0, v1, v2, _⟩ := (SR.out.below (HB1.out.trans (HB.out.mono HB1.out.size))).cells hkt
      have hb0 : (0 : Int) ≤ (i : Int) := by omega
      have hb1 : (i : Int) < (k.length : Int) := by omega
      clear hkt
      go_wp2_with fail
      go_quiet (fail)
      go_wp2_with fail
      go_roundg gk1
      case measure => omega
      case rel => exact ⟨i + 1, by omega, by go_num, Lib.hid (below_drewN HB.out _)⟩
    · have hkn : i = k.length := by omega
      go_wp2_with fail
      go_ret
      exact ⟨rfl, HB1.out.trans (HB.out.mono HB1.out.size)⟩


theorem num_take_le (b : List UInt8) (k : Nat) : num (b.take k) < 256 ^ k := Nat.lt_of_lt_of_le (num_lt _) (Nat.pow_le_pow_right (by omega) (by rw [List.length_take]; omega))

theorem meAt_ok (b : List UInt8) : (meAt b).ok := by
  have h0 := num_take_le (b.drop 0) 8
  have h3 := num_take_le (b.drop 24) 1
  have h4 := num_take_le (b.drop 25) 2
  have h5 := num_take_le (b.drop 27) 4
  exact okMe _ _ _ _ _ _ (Nat.lt_of_lt_of_le h0 (by decide)) (Nat.lt_of_lt_of_le h3 (by decide)) (Nat.lt_of_lt_of_le h4 (by decide)) (Nat.lt_of_lt_of_le h5 (by decide))

theorem mkAt_ok (b : List UInt8) : (mkAt b).ok := by
  have h0 := num_take_le (b.drop 0) 8
  have h2 := num_take_le (b.drop 16) 8
  have hw := wrap64_range (num ((b.drop 8).take 8) : Int)
  have e : (256 : Nat) ^ 8 = 18446744073709551616 := by decide
  rw [e] at h0 h2
  exact ⟨by simp only [mkAt]; omega, by simp only [mkAt]; omega, hw.1, hw.2, by simp only [mkAt]; omega, by simp only [mkAt]; omega⟩

end Go.Proofs.YtgafidnbmoomiaaGreatDoor

/-
  A STORE, as plain lists; CONTRACTS of the document's store: Call, At, Used, Fail, Get; Named, Begins, Names. Conditions: what each says.
  CONTRACTS of the document's store: Get, List, Delete, Alter, Put. Conditions: what each says.
  CONTRACT of the document's store's Alter; what stays small. Conditions: what each says.
  WHAT A STORE OF THE PROGRAM IS TO KEEP ('StoreK': its contracts, over the plain functions callS, sPut, sGet, sList, sDel, sAlt, failS), so that the laws of layer 6 can be walked apart from how it is built; what is looked up stays, whatever is done with other names. No condition but what each theorem says.
  A STORE's OBJECTS AS PLAIN LISTS: look-ups ('fnd') behind Put, Delete, Alter; names that rise; the names that begin so are what a sort of them gives. No program; no condition but what each theorem says.
-/
import Derived.Test.YtgafidnbmoomiaaGreatDoorWordA
import Derived.Test.YtgafidnbmoomiaaGreatDoorMore
import Derived.Test.YtgafidnbmoomiaaGreatDoorMix
import Derived.Test.YtgafidnbmoomiaaGreatDoorKee
import Derived.Laws.BitsAllLaws
import Derived.Sort.KeysCollected
import Derived.Sort.OwnSorted
import Derived.Maps.RangeWalk
namespace Go.Proofs.YtgafidnbmoomiaaGreatDoor
open Go.RowKit
set_option maxRecDepth 100000

structure Ob where
  nm : List UInt8
  b : List UInt8

def obC (o : Ob) : List Value := [.string (Bstr o.nm), .string (Bstr o.b)]

structure Sm where
  room : Int
  left : Int
  calls : Int
  l : List Ob

theorem objT : ElemT Tryz.prog 63 99 2 32 := ⟨Tryz.underlying63, by omega, by
  refine ⟨_, _, rfl, rfl, rfl, rfl, ?_⟩
  rfl⟩

structure DS (w : World) (base g : Nat) (v : Value) (m : Sm) : Prop where
  blk : Blk w g 65 #[.int .i64 m.room, .int .i64 m.left, .int .i64 m.calls, v]
  row : OwnL 2 w base 99 v (m.l.map obC)
  ne : v.ownBlock ≠ some g
  ge : base ≤ g

structure Sm.ok (m : Sm) : Prop where
  room0 : 0 ≤ m.room
  room1 : m.room ≤ 1048576
  left0 : -1 ≤ m.left
  left1 : m.left ≤ 9223372036854775807
  calls0 : 0 ≤ m.calls
  calls1 : m.calls ≤ 1000000000
  len : m.l.length ≤ 1000000
  used : (m.l.map fun o => o.b.length).sum ≤ 1048576

section
variable {w w' : World} {base g : Nat} {v : Value} {m : Sm}
theorem DS.below (h : DS w base g v m) (hb : Below w.heap.size w w') : DS w' base g v m := ⟨h.blk.below hb h.blk.lt, h.row.below hb, h.ne, h.ge⟩

theorem DS.form (h : DS w base g v m) : ∃ A c, v = .slice A m.l.length c ∧ m.l.length ≤ c ∧ c ≤ 9223372036854775807 := by
  obtain ⟨A, c, hv, h1, h2⟩ := h.row.lv.form
  rw [List.length_map] at hv h1
  exact ⟨A, c, hv, h1, h2⟩

theorem DS.cells {A : Option Addr} {n c : Nat} (h : DS w base g (.slice A n c) m) {i : Nat} {o : Ob} (hi : m.l[i]? = some o) :
    ∃ q p, A = some ⟨q, p, none⟩ ∧ q < w.heap.size ∧ w.cell? ⟨q, p + i * 2, none⟩ = some (.string (Bstr o.nm)) ∧ w.cell? ⟨q, p + i * 2 + 1, none⟩ = some (.string (Bstr o.b)) := by
  obtain ⟨q, p, hA, hq, hc⟩ := h.row.lv.cells (by omega) (i := i) (x := obC o) (by rw [List.getElem?_map, hi]; rfl)
  exact ⟨q, p, hA, hq, hc 0 _ rfl, hc 1 _ rfl⟩

end

def atI (n : List UInt8) : List Ob → Int
  | [] => -1
  | o :: l => if o.nm = n then 0 else if atI n l < 0 then -1 else atI n l + 1

theorem atI_none {n : List UInt8} : ∀ {l : List Ob}, (∀ o ∈ l, o.nm ≠ n) → atI n l = -1
  | [], _ => rfl
  | o :: l, h => by
    rw [atI, if_neg (h o (List.mem_cons_self ..)), atI_none fun x hx => h x (List.mem_cons_of_mem _ hx)]
    rfl

theorem atI_some {n : List UInt8} : ∀ {l : List Ob} {i : Nat} {o : Ob}, l[i]? = some o → o.nm = n → (∀ x ∈ l.take i, x.nm ≠ n) → atI n l = i
  | [], i, o, h, _, _ => by simp at h
  | x :: l, 0, o, h, hn, _ => by
    simp at h
    subst h
    rw [atI, if_pos hn]
    rfl
  | x :: l, i + 1, o, h, hn, hb => by
    have hx : x.nm ≠ n := hb x (by simp)
    have ih := atI_some (l := l) (i := i) (o := o) (by simpa using h) hn fun y hy => hb y (by simp [hy])
    rw [atI, if_neg hx, ih, if_neg (by omega)]
    omega

theorem take_snoc_st {α : Type} {l : List α} {k : Nat} {s : α} (h : l[k]? = some s) : l.take (k + 1) = l.take k ++ [s] := by
  obtain ⟨hk, rfl⟩ := List.getElem?_eq_some_iff.1 h
  exact List.take_succ_eq_append_getElem hk

set_option maxHeartbeats 800000 in
theorem At_any (base g : Nat) (v : Value) (m : Sm) (n : List UInt8) (w : World) (h : DS w base g v m) :
    Calls Tryz.prog 36 #[.pointer (some ⟨g, 0, none⟩), .string (Bstr n)] w fun e w' => e = .returned (.int .i64 (atI n m.l)) ∧ w = w' := by
  have H := Lib.hid h
  obtain ⟨A, c, rfl, hc1, hc2⟩ := h.form
  have k3 := h.blk.cell 3
  simp at k3
  clear h
  go_enter Tryz.func36, Tryz.ntmps36
  go_wp2_with fail
  go_loop [5] (fun iv => ∃ k : Nat, k ≤ m.l.length ∧ iv = .int .i64 (k : Int) ∧ Hid (∀ x ∈ m.l.take k, x.nm ≠ n)) (fun iv => m.l.length - (intOf iv).toNat)
  case atStart => exact ⟨0, Nat.zero_le _, rfl, Lib.hid (by simp)⟩
  case round =>
    obtain ⟨k, hk, rfl, HN⟩ := hrel
    by_cases hlt : k < m.l.length
    · obtain ⟨o, hko⟩ : ∃ o, m.l[k]? = some o := ⟨_, List.getElem?_eq_getElem hlt⟩
      obtain ⟨q, p, rfl, hq, c0, c1⟩ := H.out.cells hko
      have HKO := Lib.hid hko
      clear hko
      by_cases he : o.nm = n
      · have hq : ((Bstr o.nm).toList == (Bstr n).toList) = true := by rw [he]; simp
        have HE := Lib.hid he
        clear he
        go_wp2_with fail
        go_ret
        exact ⟨ret_int (atI_some HKO.out HE.out HN.out).symm, rfl⟩
      · have hq : ((Bstr o.nm).toList == (Bstr n).toList) = false := by rw [Bstr_toList, Bstr_toList]; simpa using he
        have HE := Lib.hid he
        clear he
        go_wp2_with fail
        refine ⟨⟨k + 1, by omega, by go_num, Lib.hid fun x hx => ?_⟩, by simp [intOf]; omega⟩
        rw [take_snoc_st HKO.out] at hx
        rcases List.mem_append.1 hx with h | h
        · exact HN.out x h
        · simp at h
          subst h
          exact HE.out
    · go_wp2_with fail
      go_ret
      refine ⟨ret_int (atI_none fun x hx => HN.out x ?_).symm, rfl⟩
      rw [List.take_of_length_le (by omega)]
      exact hx

def usedL (l : List Ob) : Nat := (l.map fun o => o.b.length).sum

theorem usedL_snoc (l : List Ob) (o : Ob) : usedL (l ++ [o]) = usedL l + o.b.length := by simp [usedL]

theorem usedL_take (l : List Ob) (k : Nat) : usedL (l.take k) ≤ usedL l := by
  have : usedL l = usedL (l.take k) + usedL (l.drop k) := by
    conv => lhs; rw [← List.take_append_drop k l]
    simp only [usedL, List.map_append, List.sum_append]
  omega

set_option maxHeartbeats 800000 in
theorem Used_any (base g : Nat) (v : Value) (m : Sm) (w : World) (h : DS w base g v m) (hm : usedL m.l ≤ 1048576) :
    Calls Tryz.prog 37 #[.pointer (some ⟨g, 0, none⟩)] w fun e w' => e = .returned (.int .i64 ((usedL m.l : Nat) : Int)) ∧ w = w' := by
  have H := Lib.hid h
  obtain ⟨A, c, rfl, hc1, hc2⟩ := h.form
  have k3 := h.blk.cell 3
  simp at k3
  have HM := Lib.hid hm
  clear h hm
  go_enter Tryz.func37, Tryz.ntmps37
  go_wp2_with fail
  go_loop [3, 4] (fun nv iv => ∃ k n : Nat, k ≤ m.l.length ∧ iv = .int .i64 (k : Int) ∧ nv = .int .i64 (n : Int) ∧ n ≤ 1048576 ∧ Hid (n = usedL (m.l.take k))) (fun _ iv => m.l.length - (intOf iv).toNat)
  case atStart => exact ⟨0, 0, Nat.zero_le _, rfl, rfl, by omega, Lib.hid (by simp [usedL])⟩
  case round =>
    obtain ⟨k, n, hk, rfl, rfl, hn, HN⟩ := hrel
    by_cases hlt : k < m.l.length
    · obtain ⟨o, hko⟩ : ∃ o, m.l[k]? = some o := ⟨_, List.getElem?_eq_getElem hlt⟩
      obtain ⟨q, p, rfl, hq, c0, c1⟩ := H.out.cells hko
      have hs : (Bstr o.b).size = o.b.length := Bstr_size _
      have hsum : n + o.b.length ≤ 1048576 := by
        have h1 := usedL_take m.l (k + 1)
        have h2 := HM.out
        rw [take_snoc_st hko, usedL_snoc, ← HN.out] at h1
        omega
      have HN2 : Hid (n + o.b.length = usedL (m.l.take (k + 1))) := Lib.hid (by rw [take_snoc_st hko, usedL_snoc, HN.out])
      clear hko
      go_wp2_with fail
      exact ⟨⟨k + 1, n + o.b.length, by omega, by go_num, by go_num, hsum, HN2⟩, by simp [intOf]; omega⟩
    · have hkn : k = m.l.length := by omega
      subst hkn
      have e := HN.out
      rw [List.take_length] at e
      go_wp2_with fail
      go_ret
      exact ⟨rfl, rfl⟩

def callB (m : Sm) : Bool := !(m.left == 0)

def callS (m : Sm) : Sm := { m with calls := m.calls + 1, left := if m.left ≤ 0 then -1 else m.left - 1 }

set_option maxHeartbeats 800000 in
theorem Call_any (base g : Nat) (v : Value) (m : Sm) (w : World) (h : DS w base g v m) (hm : m.ok) (hc : m.calls < 1000000000) :
    Calls Tryz.prog 34 #[.pointer (some ⟨g, 0, none⟩)] w fun e w' => e = .returned (.bool (callB m)) ∧ DS w' base g v (callS m) ∧ w.grownBy w' (some g) := by
  have H := Lib.hid h
  have k1 := h.blk.cell 1
  have k2 := h.blk.cell 2
  have f1 := h.blk.frozen 1
  have f2 := h.blk.frozen 2
  simp at k1 k2
  obtain ⟨m1, m2, m3, m4, m5, m6, _, _⟩ := hm
  have hset1 : ∀ (x : Int), DS (w.setCell ⟨g, 2, none⟩ (.int .i64 x)) base g v { m with calls := x } ∧ w.grownBy (w.setCell ⟨g, 2, none⟩ (.int .i64 x)) (some g) := fun x => by
    have hg := grown_set w g 2 (.int .i64 x)
    exact ⟨⟨by simpa using H.out.blk.set_ 2 (.int .i64 x), H.out.row.kept hg (.inr H.out.ne), H.out.ne, H.out.ge⟩, hg⟩
  have hset : ∀ (x y : Int), DS ((w.setCell ⟨g, 2, none⟩ (.int .i64 x)).setCell ⟨g, 1, none⟩ (.int .i64 y)) base g v { m with calls := x, left := y } ∧ w.grownBy ((w.setCell ⟨g, 2, none⟩ (.int .i64 x)).setCell ⟨g, 1, none⟩ (.int .i64 y)) (some g) := fun x y => by
    obtain ⟨h1, hg1⟩ := hset1 x
    have hg2 := grown_set (w.setCell ⟨g, 2, none⟩ (.int .i64 x)) g 1 (.int .i64 y)
    exact ⟨⟨by simpa using h1.blk.set_ 1 (.int .i64 y), h1.row.kept hg2 (.inr h1.ne), h1.ne, h1.ge⟩, grown_trans hg1 hg2⟩
  have HS1 := Lib.hid hset1
  have HS := Lib.hid hset
  clear hset hset1 h
  rcases Int.lt_trichotomy m.left 0 with hl | hl | hl
  · have he : m.left = -1 := by omega
    have hb : Hid (callB m = true) := Lib.hid (by simp [callB, he])
    have hsm : Hid (callS m = { m with calls := m.calls + 1 }) := Lib.hid (by simp [callS, he])
    have hz : (m.left == 0) = false := by simp [he]
    have HE := Lib.hid he
    clear he
    go_enter Tryz.func34, Tryz.ntmps34
    go_wp2_with fail
    go_ret
    rw [hb.out, hsm.out]
    exact ⟨rfl, HS1.out _⟩
  · have hb : Hid (callB m = false) := Lib.hid (by simp [callB, hl])
    have hsm : Hid (callS m = { m with calls := m.calls + 1, left := -1 }) := Lib.hid (by simp [callS, hl])
    rw [hl] at k1
    clear hl
    go_enter Tryz.func34, Tryz.ntmps34
    go_wp2_with fail
    go_ret
    rw [hb.out, hsm.out]
    exact ⟨rfl, HS.out _ _⟩
  · have hb : Hid (callB m = true) := Lib.hid (by simp [callB]; omega)
    have hsm : Hid (callS m = { m with calls := m.calls + 1, left := m.left - 1 }) := Lib.hid (by rw [callS, if_neg (by omega)])
    have hz : (m.left == 0) = false := by simp; omega
    go_enter Tryz.func34, Tryz.ntmps34
    go_wp2_with fail
    go_ret
    rw [hb.out, hsm.out]
    exact ⟨rfl, HS.out _ _⟩

def failS (m : Sm) (n : Int) : Sm := { m with left := if n < 0 then -1 else n }

set_option maxHeartbeats 800000 in
theorem Fail_any (base g : Nat) (v : Value) (m : Sm) (n : Int) (w : World) (h : DS w base g v m) :
    Calls Tryz.prog 17 #[.pointer (some ⟨g, 0, none⟩), .int .i64 n] w fun e w' => e = .returned (.tuple #[]) ∧ DS w' base g v (failS m n) ∧ w.grownBy w' (some g) := by
  have H := Lib.hid h
  have k1 := h.blk.cell 1
  have f1 := h.blk.frozen 1
  simp at k1
  have hset : ∀ (y : Int), DS (w.setCell ⟨g, 1, none⟩ (.int .i64 y)) base g v { m with left := y } ∧ w.grownBy (w.setCell ⟨g, 1, none⟩ (.int .i64 y)) (some g) := fun y => by
    have hg := grown_set w g 1 (.int .i64 y)
    exact ⟨⟨by simpa using H.out.blk.set_ 1 (.int .i64 y), H.out.row.kept hg (.inr H.out.ne), H.out.ne, H.out.ge⟩, hg⟩
  have HS := Lib.hid hset
  clear hset h
  by_cases hn : n < 0
  · have hsm : Hid (failS m n = { m with left := -1 }) := Lib.hid (by rw [failS, if_pos hn])
    go_enter Tryz.func17, Tryz.ntmps17
    go_wp2_with fail
    refine bodyPost_end (results_none rfl _ _ _) rfl ?_
    rw [hsm.out]
    obtain ⟨h1, hg1⟩ := HS.out n
    have hg2 := grown_set (w.setCell ⟨g, 1, none⟩ (.int .i64 n)) g 1 (.int .i64 (-1))
    exact ⟨rfl, ⟨by simpa using h1.blk.set_ 1 (.int .i64 (-1)), h1.row.kept hg2 (.inr h1.ne), h1.ne, h1.ge⟩, grown_trans hg1 hg2⟩
  · have hsm : Hid (failS m n = { m with left := n }) := Lib.hid (by rw [failS, if_neg hn])
    go_enter Tryz.func17, Tryz.ntmps17
    go_wp2_with fail
    refine bodyPost_end (results_none rfl _ _ _) rfl ?_
    rw [hsm.out]
    exact ⟨rfl, HS.out n⟩

def nameC (c : Nat) : Bool := (decide (97 ≤ c) && decide (c ≤ 122)) || ((decide (48 ≤ c) && decide (c ≤ 57)) || (decide (c = 47) || decide (c = 45)))

def nameB (l : List UInt8) : Bool := l.all (fun c => nameC c.toNat) && (decide (0 < l.length) && decide (l.length ≤ 32))

theorem Bstr_get (n : List UInt8) (k : Nat) (h : k < (Bstr n).size) (h' : k < n.length) : (Bstr n)[k] = n[k] := by
  show (Bstr n).data[k]'h = _
  simp [Bstr]

theorem str_at {n : List UInt8} {k : Nat} {c : UInt8} {x : Nat} (h : n[k]? = some c) (hx : x = c.toNat) (u : World) : (Instr.index 9 (.string (Bstr n)) (.int .i64 (k : Int))).run Tryz.prog u = .ok (.int .u8 (x : Int)) u := by
  obtain ⟨hk, rfl⟩ := List.getElem?_eq_some_iff.1 h
  subst hx
  have hs := Bstr_size n
  rw [run_index_string u _ _ _ _ strT, dif_pos ⟨by omega, by omega⟩]
  simp only [Int.toNat_natCast]
  exact congrArg (fun b : UInt8 => Result.ok (Value.int .u8 (b.toNat : Int)) u) (Bstr_get n k (by omega) hk)

set_option maxHeartbeats 1600000 in
theorem Named_any (n : List UInt8) (w : World) (hl : n.length ≤ 1000000) :
    Calls Tryz.prog 35 #[.string (Bstr n)] w fun e w' => e = .returned (.bool (nameB n)) ∧ w = w' := by
  have hs : (Bstr n).size = n.length := Bstr_size _
  go_enter Tryz.func35, Tryz.ntmps35
  go_wp2_with fail
  go_loop [3] (fun iv => ∃ k : Nat, k ≤ n.length ∧ iv = .int .i64 (k : Int) ∧ Hid ((n.take k).all (fun c => nameC c.toNat) = true)) (fun iv => n.length - (intOf iv).toNat)
  case atStart => exact ⟨0, Nat.zero_le _, rfl, Lib.hid (by simp)⟩
  case round =>
    obtain ⟨k, hk, rfl, HN⟩ := hrel
    by_cases hlt : k < n.length
    · obtain ⟨c, hkc⟩ : ∃ c, n[k]? = some c := ⟨_, List.getElem?_eq_getElem hlt⟩
      obtain ⟨x, hx⟩ : ∃ x, x = c.toNat := ⟨_, rfl⟩
      have hix : ∀ u : World, (Instr.index 9 (.string (Bstr n)) (.int .i64 (k : Int))).run Tryz.prog u = .ok (.int .u8 (x : Int)) u := fun u => str_at hkc hx u
      have HGO : Hid (nameC x = true → (n.take (k + 1)).all (fun c => nameC c.toNat) = true) := Lib.hid fun h => by
        rw [take_snoc_st hkc, List.all_append, HN.out]
        simpa [← hx] using h
      have HNO : Hid (nameC x = false → nameB n = false) := Lib.hid fun h => by
        have : n.all (fun c => nameC c.toNat) = false := by
          rw [List.all_eq_false]
          exact ⟨c, List.mem_of_getElem? hkc, by rw [← hx, h]; simp⟩
        rw [nameB, this]
        rfl
      have hxl : x < 256 := by rw [hx]; exact c.toNat_lt
      clear hkc hx
      by_cases a1 : 97 ≤ x
      · by_cases a2 : x ≤ 122
        · have d2 : decide ((x : Int) ≤ 122) = true := decide_eq_true (by omega)
          go_wp2_with fail
          exact ⟨⟨k + 1, by omega, by go_num, Lib.hid (HGO.out (by first | (simp [nameC]; done) | (simp [nameC]; omega)))⟩, by simp [intOf]; omega⟩
        · have d2 : decide ((x : Int) ≤ 122) = false := decide_eq_false (by omega)
          have d4 : decide ((x : Int) ≤ 57) = false := decide_eq_false (by omega)
          have k47 : ((x : Int) == 47) = false := beq_eq_false_iff_ne.2 (by omega)
          have k45 : ((x : Int) == 45) = false := beq_eq_false_iff_ne.2 (by omega)
          go_wp2_with fail
          go_ret
          exact ⟨ret_bool (HNO.out (by simp [nameC]; omega)).symm, rfl⟩
      · by_cases a3 : 48 ≤ x
        · by_cases a4 : x ≤ 57
          · have d4 : decide ((x : Int) ≤ 57) = true := decide_eq_true (by omega)
            go_wp2_with fail
            exact ⟨⟨k + 1, by omega, by go_num, Lib.hid (HGO.out (by first | (simp [nameC]; done) | (simp [nameC]; omega)))⟩, by simp [intOf]; omega⟩
          · have d4 : decide ((x : Int) ≤ 57) = false := decide_eq_false (by omega)
            have k47 : ((x : Int) == 47) = false := beq_eq_false_iff_ne.2 (by omega)
            have k45 : ((x : Int) == 45) = false := beq_eq_false_iff_ne.2 (by omega)
            go_wp2_with fail
            go_ret
            exact ⟨ret_bool (HNO.out (by simp [nameC]; omega)).symm, rfl⟩
        · skip
          by_cases e47 : x = 47
          · have k47 : ((x : Int) == 47) = true := by simp [e47]
            have HX := Lib.hid e47
            subst e47
            go_wp2_with fail
            exact ⟨⟨k + 1, by omega, by go_num, Lib.hid (HGO.out (by first | (simp [nameC]; done) | (simp [nameC]; omega)))⟩, by simp [intOf]; omega⟩
          · have k47 : ((x : Int) == 47) = false := beq_eq_false_iff_ne.2 (by omega)
            by_cases e45 : x = 45
            · have k45 : ((x : Int) == 45) = true := by simp [e45]
              subst e45
              go_wp2_with fail
              exact ⟨⟨k + 1, by omega, by go_num, Lib.hid (HGO.out (by first | (simp [nameC]; done) | (simp [nameC]; omega)))⟩, by simp [intOf]; omega⟩
            · have k45 : ((x : Int) == 45) = false := beq_eq_false_iff_ne.2 (by omega)
              go_wp2_with fail
              go_ret
              exact ⟨ret_bool (HNO.out (by simp [nameC]; omega)).symm, rfl⟩
    · have e := HN.out
      rw [List.take_of_length_le (by omega)] at e
      have HE : Hid (nameB n = (decide (0 < n.length) && decide (n.length ≤ 32))) := Lib.hid (by rw [nameB, e]; rfl)
      clear e
      by_cases l0 : 0 < n.length
      · by_cases l1 : n.length ≤ 32
        · have HL : Hid (nameB n = true) := Lib.hid (by rw [HE.out]; simp [l0, l1])
          go_wp2_with fail
          go_ret
          exact ⟨ret_bool (by first | exact HL.out.symm | (rw [HL.out]; simp; omega)), rfl⟩
        · have HL : Hid (nameB n = false) := Lib.hid (by rw [HE.out]; simp [l1])
          go_wp2_with fail
          go_ret
          exact ⟨ret_bool (by first | exact HL.out.symm | (rw [HL.out]; simp; omega)), rfl⟩
      · have HL : Hid (nameB n = false) := Lib.hid (by rw [HE.out]; simp [l0])
        go_wp2_with fail
        go_ret
        exact ⟨ret_bool (by first | exact HL.out.symm | (rw [HL.out]; simp; omega)), rfl⟩

def begB (s p : List UInt8) : Bool := decide (p.length ≤ s.length) && decide (s.take p.length = p)

theorem Begins_any (s p : List UInt8) (w : World) (hp : p.length ≤ 1000000) :
    Calls Tryz.prog 65 #[.string (Bstr s), .string (Bstr p)] w fun e w' => e = .returned (.bool (begB s p)) ∧ w = w' := by
  have z1 : (Bstr s).size = s.length := Bstr_size _
  have z2 : (Bstr p).size = p.length := Bstr_size _
  by_cases hl : p.length ≤ s.length
  · have hsl : ∀ u : World, (Instr.slice 9 (.string (Bstr s)) none (some (.int .i64 (p.length : Int))) none).run Tryz.prog u = .ok (.string (Bstr (s.take p.length))) u := fun u => by
      rw [run_slice_string_h u _ _ strT .i64 (p.length : Int) (by omega) (by omega), Int.toNat_natCast, Bstr_take]
    have HE : Hid (begB s p = ((Bstr (s.take p.length)).toList == (Bstr p).toList)) := Lib.hid (by
      rw [Bstr_toList, Bstr_toList, begB, decide_eq_true hl]
      by_cases he : s.take p.length = p <;> simp [he])
    rw [HE.out]
    go_enter Tryz.func65, Tryz.ntmps65
    go_wp2_with fail
    go_ret
    exact ⟨rfl, rfl⟩
  · go_enter Tryz.func65, Tryz.ntmps65
    go_wp2_with fail
    go_ret
    exact ⟨ret_bool (by simp [begB, hl]), rfl⟩

theorem atI_ge (n : List UInt8) : ∀ l : List Ob, atI n l = -1 ∨ ∃ (i : Nat) (o : Ob), atI n l = i ∧ l[i]? = some o ∧ o.nm = n
  | [] => .inl rfl
  | o :: l => by
    rw [atI]
    split
    · rename_i h
      exact .inr ⟨0, o, rfl, rfl, h⟩
    · rcases atI_ge n l with h | ⟨i, x, h, hx, hn⟩
      · rw [h]
        exact .inl rfl
      · rw [h, if_neg (by omega)]
        exact .inr ⟨i + 1, x, by omega, by simpa using hx, hn⟩

def sGet (m : Sm) (n : List UInt8) : List UInt8 × Int :=
  if callB m = false then ([], 8) else match m.l[(atI n m.l).toNat]? with
    | some o => if atI n m.l < 0 then ([], 4) else (o.b, 0)
    | none => ([], 4)

theorem sGet_fail {m : Sm} {n : List UInt8} (h : callB m = false) : sGet m n = ([], 8) := by rw [sGet, if_pos h]

theorem sGet_none {m : Sm} {n : List UInt8} (h : callB m = true) (hn : atI n m.l = -1) : sGet m n = ([], 4) := by
  rw [sGet, if_neg (by rw [h]; simp), hn]
  cases m.l[(-1 : Int).toNat]? <;> simp

theorem sGet_some {m : Sm} {n : List UInt8} {i : Nat} {o : Ob} (h : callB m = true) (hn : atI n m.l = i) (ho : m.l[i]? = some o) : sGet m n = (o.b, 0) := by
  rw [sGet, if_neg (by rw [h]; simp), hn, Int.toNat_natCast, ho]
  simp

set_option maxHeartbeats 800000 in
theorem DGet_any (base g : Nat) (v : Value) (m : Sm) (n : List UInt8) (w : World) (h : DS w base g v m) (hm : m.ok) (hc : m.calls < 1000000000) :
    Calls Tryz.prog 49 #[.pointer (some ⟨g, 0, none⟩), .string (Bstr n)] w fun e w' => e = .returned (.tuple #[.string (Bstr (sGet m n).1), .int .i64 (sGet m n).2]) ∧ DS w' base g v (callS m) ∧ w.grownBy w' (some g) := by
  go_enter Tryz.func49, Tryz.ntmps49
  go_wp2_with fail
  refine (Call_any base g v m _ h hm hc).mono ?_
  rintro e w1 ⟨rfl, h1, hg1⟩
  have H1 := Lib.hid h1
  cases hcb : callB m with
  | false =>
    have HG := Lib.hid (sGet_fail (n := n) hcb)
    clear hcb h1
    go_wp2_with fail
    go_ret2
    exact ⟨by rw [HG.out]; rfl, H1.out, hg1⟩
  | true =>
    have hA := At_any base g v (callS m) n w1 h1
    have hl : (callS m).l = m.l := rfl
    rw [hl] at hA
    rcases atI_ge n m.l with hn | ⟨i, o, hn, ho, _⟩
    · have HG := Lib.hid (sGet_none hcb hn)
      rw [hn] at hA
      clear hcb h1 hn
      go_wp2_with fail
      refine hA.mono ?_
      rintro e w2 ⟨rfl, rfl⟩
      go_wp2_with fail
      go_ret2
      exact ⟨by rw [HG.out]; rfl, H1.out, hg1⟩
    · have HG := Lib.hid (sGet_some hcb hn ho)
      rw [hn] at hA
      obtain ⟨A, c, rfl, hc1, hc2⟩ := h1.form
      obtain ⟨q, p, rfl, hq, c0, c1⟩ := h1.cells (i := i) (o := o) ho
      have k3 := h1.blk.cell 3
      simp at k3
      rw [hl] at hc1 k3
      have hil : i < m.l.length := (List.getElem?_eq_some_iff.1 ho).1
      clear hcb h1 hn ho
      go_wp2_with fail
      refine hA.mono ?_
      rintro e w2 ⟨rfl, rfl⟩
      go_wp2_with fail
      go_ret2
      exact ⟨by rw [HG.out]; rfl, H1.out, hg1⟩

def sNames (l : List Ob) (p : List UInt8) : List (List UInt8) := (l.filter fun o => begB o.nm p).map fun o => o.nm

def sList (m : Sm) (p : List UInt8) : List (List UInt8) × Int := if callB m = false then ([], 8) else (sNames m.l p, 0)

theorem sNames_snoc (l : List Ob) (o : Ob) (p : List UInt8) : sNames (l ++ [o]) p = sNames l p ++ if begB o.nm p = true then [o.nm] else [] := by
  cases h : begB o.nm p <;> simp [sNames, List.filter_append, h]

theorem sNames_len (l : List Ob) (p : List UInt8) : (sNames l p).length ≤ l.length := by
  rw [sNames, List.length_map]
  exact List.length_filter_le _ _

set_option maxHeartbeats 1600000 in
theorem DList_any (base g : Nat) (v : Value) (m : Sm) (p : List UInt8) (w : World) (h : DS w base g v m) (hm : m.ok) (hc : m.calls < 1000000000) (hp : p.length ≤ 1000000) :
    Calls Tryz.prog 46 #[.pointer (some ⟨g, 0, none⟩), .string (Bstr p)] w fun e w' => ∃ x, e = .returned (.tuple #[x, .int .i64 (sList m p).2]) ∧ StL w' x (sList m p).1 ∧ DS w' base g v (callS m) ∧ w.grownBy w' (some g) := by
  have hml := hm.len
  go_enter Tryz.func46, Tryz.ntmps46
  go_wp2_with fail
  refine (Call_any base g v m _ h hm hc).mono ?_
  rintro e w1 ⟨rfl, h1, hg1⟩
  have H1 := Lib.hid h1
  cases hcb : callB m with
  | false =>
    have HG : Hid (sList m p = ([], 8)) := Lib.hid (by rw [sList, if_pos hcb])
    clear hcb h1
    go_wp2_with fail
    go_ret2
    rw [HG.out]
    exact ⟨_, rfl, Lv.nil 1 _, H1.out, hg1⟩
  | true =>
    have HG : Hid (sList m p = (sNames m.l p, 0)) := Lib.hid (by rw [sList, if_neg (by rw [hcb]; simp)])
    obtain ⟨A, c, rfl, hc1, hc2⟩ := h1.form
    have hl : (callS m).l = m.l := rfl
    rw [hl] at hc1 H1
    have HBl := Lib.hid h1.blk
    clear hcb h1 hl
    go_wp2_with fail
    go_loopw [7, 8] (fun ov iv wr => ∃ k : Nat, k ≤ m.l.length ∧ iv = .int .i64 (k : Int) ∧ OwnL 1 wr w1.heap.size 9 ov ((sNames (m.l.take k) p).map stC) ∧ Below w1.heap.size w1 wr) (fun _ iv _ => m.l.length - (intOf iv).toNat)
    case atStart => exact ⟨0, Nat.zero_le _, rfl, OwnL.nil _ _ _ _, Below.refl _ _⟩
    case round =>
      obtain ⟨k, hk, rfl, hO, hB⟩ := hrel
      have k3 := (HBl.out.below hB HBl.out.lt).cell 3
      simp at k3
      by_cases hlt : k < m.l.length
      · obtain ⟨o, hko⟩ : ∃ o, m.l[k]? = some o := ⟨_, List.getElem?_eq_getElem hlt⟩
        obtain ⟨q, s, rfl, hq, c0, c1⟩ := H1.out.cells hko
        replace c0 := (hB.cell (p := ⟨q, s + k * 2, none⟩) hq).trans c0
        replace c1 := (hB.cell (p := ⟨q, s + k * 2 + 1, none⟩) hq).trans c1
        have hqr := Nat.lt_of_lt_of_le hq hB.size
        have HT := Lib.hid (take_snoc_st hko)
        have hol : (sNames (m.l.take k) p).length ≤ k := by
          have := sNames_len (m.l.take k) p
          rw [List.length_take] at this
          omega
        have HO := Lib.hid hO
        have HOL := Lib.hid hol
        clear hko hO hol
        cases hbg : begB o.nm p with
        | false =>
          have HB2 := Lib.hid hbg
          have hBe := Begins_any o.nm p wr hp
          rw [hbg] at hBe
          clear hbg
          go_wp2_with fail
          refine hBe.mono ?_
          rintro e w2 ⟨rfl, rfl⟩
          go_wp2_with fail
          refine ⟨⟨k + 1, by omega, by go_num, ?_, hB⟩, by simp [intOf]; omega⟩
          rw [HT.out, sNames_snoc, HB2.out]
          simpa using HO.out
        | true =>
          have HB2 := Lib.hid hbg
          have hBe := Begins_any o.nm p wr hp
          rw [hbg] at hBe
          have ha : Below wr.heap.size wr (wr.alloc (.cells #[.string (Bstr o.nm)] 9)) := (Below.refl _ _).alloc (Nat.le_refl _) _
          have HOa := Lib.hid (HO.out.below ha)
          have HBa := Lib.hid (hB.trans (ha.mono hB.size))
          have HLV := Lib.hid (Lv.lit1 wr [.string (Bstr o.nm)] 9)
          clear hbg ha
          go_wp2_with fail
          refine hBe.mono ?_
          rintro e w2 ⟨rfl, rfl⟩
          go_wp2_with (at_builtin; refine wpList_append_elems _ strT1 rfl _ _ rfl w1.heap.size _ _ rfl HOa.out _ _ rfl HLV.out (by simp [Value.oneCell']) (by have := HOL.out; simp only [maxLen, List.length_map, List.length_singleton]; omega) (by have := HOL.out; simp only [List.length_map, List.length_singleton]; omega) HBa.out.size ?_)
          intro v3 w3 ho3 hg3 _
          have HO3 : Hid (OwnL 1 w3 w1.heap.size 9 v3 ((sNames (m.l.take (k + 1)) p).map stC)) := Lib.hid (by
            rw [HT.out, sNames_snoc, HB2.out]
            simpa [stC] using ho3)
          have hB3 := HBa.out.grown hg3 HBa.out.size HOa.out.ge
          clear ho3 hg3
          go_wp2_with fail
          exact ⟨⟨k + 1, by omega, by go_num, HO3.out, hB3⟩, by simp [intOf]; omega⟩
      · have hkn : k = m.l.length := by omega
        subst hkn
        rw [List.take_length] at hO
        have HO := Lib.hid hO.lv
        clear hO
        go_wp2_with fail
        go_ret2
        rw [HG.out]
        exact ⟨_, rfl, HO.out, H1.out.below hB, grown_trans hg1 (grown_of_below hB _)⟩

theorem objE : Tryz.prog.elem 63 = 99 := by kernel_rfl

theorem obC_one (l : List Ob) : ∀ x ∈ l.map obC, ∀ u ∈ x, u.oneCell' = true := by
  intro x hx u hu
  obtain ⟨o, _, rfl⟩ := List.mem_map.1 hx
  simp [obC] at hu
  rcases hu with rfl | rfl <;> rfl

theorem OwnL.none (w : World) (k base : Nat) (e : TypeId) (hb : base ≤ w.heap.size) : OwnL k (w.alloc (.cells #[] e)) base e (.slice (some ⟨w.heap.size, 0, none⟩) 0 0) [] :=
  ⟨World.ownsRow_made w #[] 0 hb (by simp [maxLen]) (by simp), fun x hx => by cases hx⟩

def sDel (m : Sm) (n : List UInt8) : Sm × Int :=
  if callB m = false then (callS m, 8) else if atI n m.l < 0 then (callS m, 4) else ({ callS m with l := m.l.take (atI n m.l).toNat ++ m.l.drop ((atI n m.l).toNat + 1) }, 0)

theorem sDel_fail {m : Sm} {n : List UInt8} (h : callB m = false) : sDel m n = (callS m, 8) := by rw [sDel, if_pos h]

theorem sDel_none {m : Sm} {n : List UInt8} (h : callB m = true) (hn : atI n m.l = -1) : sDel m n = (callS m, 4) := by
  rw [sDel, if_neg (by rw [h]; simp), hn]
  rfl

theorem sDel_some {m : Sm} {n : List UInt8} {i : Nat} (h : callB m = true) (hn : atI n m.l = i) : sDel m n = ({ callS m with l := m.l.take i ++ m.l.drop (i + 1) }, 0) := by
  rw [sDel, if_neg (by rw [h]; simp), hn, if_neg (by omega), Int.toNat_natCast]

set_option maxHeartbeats 3200000 in
theorem DDelete_any (base g : Nat) (v : Value) (m : Sm) (n : List UInt8) (w : World) (h : DS w base g v m) (hm : m.ok) (hc : m.calls < 1000000000) :
    Calls Tryz.prog 15 #[.pointer (some ⟨g, 0, none⟩), .string (Bstr n)] w fun e w' => e = .returned (.int .i64 (sDel m n).2) ∧ ∃ v', DS w' base g v' (sDel m n).1 ∧ w.grownBy w' (some g) ∧ ∀ q, v'.ownBlock = some q → v.ownBlock = some q ∨ w.heap.size ≤ q := by
  have hml := hm.len
  go_enter Tryz.func15, Tryz.ntmps15
  go_wp2_with fail
  refine (Call_any base g v m _ h hm hc).mono ?_
  rintro e w1 ⟨rfl, h1, hg1⟩
  have H1 := Lib.hid h1
  cases hcb : callB m with
  | false =>
    have HG := Lib.hid (sDel_fail (n := n) hcb)
    clear hcb h1
    go_wp2_with fail
    go_ret
    rw [HG.out]
    exact ⟨rfl, v, H1.out, hg1, fun q h => .inl h⟩
  | true =>
    have hA := At_any base g v (callS m) n w1 h1
    have hl : (callS m).l = m.l := rfl
    rw [hl] at hA
    rcases atI_ge n m.l with hn | ⟨i, o, hn, ho, _⟩
    · have HG := Lib.hid (sDel_none hcb hn)
      rw [hn] at hA
      clear hcb h1 hn
      go_wp2_with fail
      refine hA.mono ?_
      rintro e w2 ⟨rfl, rfl⟩
      go_wp2_with fail
      go_ret
      rw [HG.out]
      exact ⟨rfl, v, H1.out, hg1, fun q h => .inl h⟩
    · have HG := Lib.hid (sDel_some hcb hn)
      rw [hn] at hA
      obtain ⟨A, c, rfl, hc1, hc2⟩ := h1.form
      obtain ⟨q, p, rfl, hq, c0, c1⟩ := h1.cells (i := i) (o := o) ho
      have k3 := h1.blk.cell 3
      have f3 := h1.blk.frozen 3
      simp at k3
      rw [hl] at hc1 k3 H1
      have hil : i < m.l.length := (List.getElem?_eq_some_iff.1 ho).1
      have hlv : Lv 2 w1 (.slice (some ⟨q, p, none⟩) m.l.length c) (m.l.map obC) := H1.out.row.lv
      have hgl := H1.out.blk.lt
      have hbg := H1.out.ge
      have hV := hlv.upto i (by omega)
      have hU := hlv.from_ (i + 1) (by omega)
      have hsV := run_slice_upto (P := Tryz.prog) (A := some ⟨q, p, none⟩) objT objE i (by omega : i ≤ m.l.length) hc1
      have hsU := run_slice_from (P := Tryz.prog) (A := some ⟨q, p, none⟩) objT objE (i + 1) (by omega : i + 1 ≤ m.l.length) hc1
      generalize hVe : (Value.slice (some ⟨q, p, none⟩) i c) = V at hV hsV
      generalize hUe : (Value.slice (if c = i + 1 then (some (⟨q, p, none⟩ : Addr)) else (some ⟨q, p, none⟩ : Option Addr).map (·.add ((i + 1) * 2))) (m.l.length - (i + 1)) (c - (i + 1))) = U at hU hsU
      have hsU' : ∀ u : World, (Instr.slice 63 (.slice (some ⟨q, p, none⟩) m.l.length c) (some (.int .i64 ((i : Int) + 1))) none none).run Tryz.prog u = .ok U u := fun u => by
        have := hsU u
        simpa using this
      have hwi : IntKind.i64.wrap ((i : Int) + 1) = (i : Int) + 1 := IntWalk.i64_in _ (by omega)
      have ha : Below w1.heap.size w1 (w1.drew.alloc (.cells #[] 99)) := (Below.refl _ _).drew.alloc (Nat.le_refl _) _
      clear hcb h1 hn c0 c1 hsU hVe hUe hl hlv ho
      go_wp2_with fail
      refine hA.mono ?_
      rintro e w2' ⟨rfl, rfl⟩
      go_wp2_with fail
      clear hA
      refine wp_region_mix3 19 [(0, 0), (2, 0), (3, 0), (4, 0), (5, 0), (6, 0), (7, 0), (9, 0), (10, 0), (11, 0), (12, 0), (13, 0), (14, 0), (15, 0), (1, 1), (8, 1), (16, 1), (17, 0), (18, 0), (19, 2)] (fun u => u.cell? ⟨g, 3, none⟩ = some (.slice (some ⟨q, p, none⟩) m.l.length c)) (by kernel_rfl) (by kernel_rfl) (by decide +kernel) rfl k3 ?_
      repeat
        (refine mix3_read (o := ⟨_, _, _, _, _, _⟩) (v := ?_) rfl (by rfl) (fun w' hS => ?_) ?_
         rotate_left
         go_simp
         with_reducible rfl
         try simp only [Act.put, List.setIfInBounds_toArray, List.set_cons_zero, List.set_cons_succ])
      refine mix3_step (o := ⟨_, _, _, _, _, _⟩) rfl (fun K hK => ?_)
      go_simp
      have kk : ∀ u, Below w1.heap.size w1 u → u.cell? ⟨g, 3, none⟩ = some (.slice (some ⟨q, p, none⟩) m.l.length c) := fun u hu => (hu.cell (p := ⟨g, 3, none⟩) hgl).trans k3
      refine hK.out _ _ (kk _ ha) ?_
      clear hK K
      try simp only [Act.put, List.setIfInBounds_toArray, List.set_cons_zero, List.set_cons_succ]
      refine mix3_step (o := ⟨_, _, _, _, _, _⟩) rfl (fun K hK => ?_)
      refine step_append_elems objT rfl _ _ rfl rfl (OwnL.none w1.drew 2 base 99 (by show base ≤ w1.heap.size; omega)) rfl (hV.below ha)
        (by intro y hy; exact obC_one m.l y (List.mem_of_mem_take hy)) (by simp only [maxLen, List.length_nil, List.length_take, List.length_map]; omega) (by simp only [List.length_nil, List.length_take, List.length_map]; omega) (Nat.le_trans (Nat.le_trans hbg (Nat.le_of_lt hgl)) ha.size) ?_
      intro v2 w2 ho2 hg2 hv2
      have hB2 : Below w1.heap.size w1 w2 := ha.grown hg2 ha.size (fun k hk => by injection hk with hk; exact Nat.le_of_eq hk)
      have hv2g : ∀ k, v2.ownBlock = some k → w1.heap.size ≤ k := fun k hk => by
        rcases hv2 with e | e
        · rw [e] at hk
          injection hk with hk
          exact Nat.le_of_eq hk
        · rw [e] at hk
          injection hk with hk
          rw [← hk]
          exact ha.size
      refine hK.out _ _ (kk _ hB2) ?_
      clear hK K
      try simp only [Act.put, List.setIfInBounds_toArray, List.set_cons_zero, List.set_cons_succ]
      refine mix3_step (o := ⟨_, _, _, _, _, _⟩) rfl (fun K hK => ?_)
      refine step_append_elems objT rfl _ _ rfl rfl ho2 rfl (hU.below hB2)
        (by intro y hy; exact obC_one m.l y (List.mem_of_mem_drop hy)) (by simp only [maxLen, List.nil_append, List.length_take, List.length_drop, List.length_map]; omega) (by simp only [List.nil_append, List.length_take, List.length_drop, List.length_map]; omega) (by have := hB2.size; omega) ?_
      intro v3 w3 ho3 hg3 hv3
      replace hv3 : v3.ownBlock = v2.ownBlock ∨ v3.ownBlock = some w2.heap.size := hv3
      have hv3g : ∀ k, v3.ownBlock = some k → w1.heap.size ≤ k := fun k hk => by
        rcases hv3 with e | e
        · exact hv2g k (by rw [← e]; exact hk)
        · rw [e] at hk
          injection hk with hk
          have := hB2.size
          omega
      have hB3 : Below w1.heap.size w1 w3 := hB2.grown hg3 hB2.size hv2g
      refine hK.out _ _ (kk _ hB3) ?_
      clear hK K
      try simp only [Act.put, List.setIfInBounds_toArray, List.set_cons_zero, List.set_cons_succ]
      repeat
        (refine mix3_read (o := ⟨_, _, _, _, _, _⟩) (v := ?_) rfl (by rfl) (fun w' hS => ?_) ?_
         rotate_left
         go_simp
         with_reducible rfl
         try simp only [Act.put, List.setIfInBounds_toArray, List.set_cons_zero, List.set_cons_succ])
      have hblk3 := H1.out.blk.below hB3 hgl
      have k33 := kk _ hB3
      have f33 := hblk3.frozen 3
      obtain ⟨A3, N3, c3, hv3f⟩ : ∃ a n c, v3 = .slice a n c := by
        obtain ⟨a, c, h, _⟩ := ho3.lv.form
        exact ⟨_, _, _, h⟩
      subst hv3f
      have HO3 := Lib.hid ho3
      clear ho3 hv3
      refine mix3_store (o := ⟨_, _, _, _, _, _⟩) rfl (fun K hK => ?_)
      go_simp
      refine hK.out _ _ ?_
      clear hK K
      refine mix3_done ?_
      clear hsV hsU' hV hU ha hwi
      go_wp2_with fail
      go_ret
      rw [HG.out]
      have hgs := grown_set w3 g 3 (.slice A3 N3 c3)
      have hne : (Value.slice A3 N3 c3).ownBlock ≠ some g := fun e => by have := hv3g g e; omega
      have hg13 : w1.grownBy w3 (some g) := grown_of_below hB3 _
      refine ⟨rfl, _, ⟨by simpa using hblk3.set_ 3 (.slice A3 N3 c3), ?_, hne, hbg⟩, grown_trans hg1 (grown_trans hg13 hgs), fun k hk => .inr (Nat.le_trans hg1.size (hv3g k hk))⟩
      have := HO3.out.kept hgs (.inr hne)
      simpa [List.map_take, List.map_drop] using this

theorem ob_cut {w : World} {A : Option Addr} {n c : Nat} {xs : List (List Value)} (h : Lv 2 w (.slice A n c) xs) (k : Nat) (hk : k ≤ n) (hc : n ≤ c) :
    ∃ V U, (∀ u, (Instr.slice 63 (.slice A n c) none (some (.int .i64 (k : Int))) none).run Tryz.prog u = .ok V u) ∧ (∀ u, (Instr.slice 63 (.slice A n c) (some (.int .i64 (k : Int))) none none).run Tryz.prog u = .ok U u) ∧ Lv 2 w V (xs.take k) ∧ Lv 2 w U (xs.drop k) :=
  ⟨_, _, run_slice_upto objT objE k hk hc, run_slice_from objT objE k hk hc, h.upto k hk, h.from_ k hk⟩

def ltB (a b : List UInt8) : Bool := Op.bytesLess a b

def insP (n : List UInt8) : List Ob → Nat
  | [] => 0
  | o :: l => if ltB o.nm n = true then insP n l + 1 else 0

theorem insP_at {n : List UInt8} : ∀ {l : List Ob} {k : Nat}, k ≤ l.length → (∀ o ∈ l.take k, ltB o.nm n = true) → (∀ o, l[k]? = some o → ltB o.nm n = false) → insP n l = k
  | [], k, hk, _, _ => by
    have : k = 0 := by simpa using hk
    subst this
    rfl
  | o :: l, 0, _, _, h => by
    have := h o (by simp)
    rw [insP, if_neg (by rw [this]; simp)]
  | o :: l, k + 1, hk, h1, h2 => by
    have ih := insP_at (n := n) (l := l) (k := k) (by simpa using hk) (fun x hx => h1 x (by simp [hx])) (fun x hx => h2 x (by simpa using hx))
    rw [insP, if_pos (h1 o (by simp)), ih]

def restU (m : Sm) (n : List UInt8) : Int := (usedL m.l : Int) - match m.l[(atI n m.l).toNat]? with
  | some o => if atI n m.l < 0 then 0 else (o.b.length : Int)
  | none => 0

theorem restU_none {m : Sm} {n : List UInt8} (h : atI n m.l = -1) : restU m n = usedL m.l := by
  rw [restU, h]
  cases m.l[(-1 : Int).toNat]? <;> simp

theorem restU_some {m : Sm} {n : List UInt8} {i : Nat} {o : Ob} (h : atI n m.l = i) (ho : m.l[i]? = some o) : restU m n = (usedL m.l : Int) - o.b.length := by
  rw [restU, h, Int.toNat_natCast, ho]
  simp only
  rw [if_neg (by omega)]

theorem usedL_at : ∀ {l : List Ob} {i : Nat} {o : Ob}, l[i]? = some o → o.b.length ≤ usedL l
  | [], i, o, h => by simp at h
  | x :: l, 0, o, h => by
    simp at h
    subst h
    simp [usedL]
  | x :: l, i + 1, o, h => by
    have ih := usedL_at (l := l) (i := i) (o := o) (by simpa using h)
    simp [usedL] at ih ⊢
    omega

def sPut (m : Sm) (n b : List UInt8) : Sm × Int :=
  if callB m = false then (callS m, 8) else if nameB n = false then (callS m, 1) else
  if restU m n + b.length > m.room then (callS m, 6) else
  if atI n m.l < 0 then ({ callS m with l := m.l.take (insP n m.l) ++ (⟨n, b⟩ :: m.l.drop (insP n m.l)) }, 0) else ({ callS m with l := m.l.set (atI n m.l).toNat ⟨n, b⟩ }, 0)

set_option maxHeartbeats 6400000 in
theorem DPut_any (base g : Nat) (v : Value) (m : Sm) (n b : List UInt8) (w : World) (h : DS w base g v m) (hm : m.ok) (hc : m.calls < 1000000000) (hn : n.length ≤ 1000000) (hbl : b.length ≤ 1000000) :
    Calls Tryz.prog 13 #[.pointer (some ⟨g, 0, none⟩), .string (Bstr n), .string (Bstr b)] w fun e w' => e = .returned (.int .i64 (sPut m n b).2) ∧ ∃ v', DS w' base g v' (sPut m n b).1 ∧ Apt (fun q => q = g ∨ v.ownBlock = some q) w w' ∧ ∀ q, v'.ownBlock = some q → v.ownBlock = some q ∨ w.heap.size ≤ q := by
  have hml := hm.len
  have hmu := hm.used
  have hmr0 := hm.room0
  have hmr1 := hm.room1
  have hzb : (Bstr b).size = b.length := Bstr_size _
  go_enter Tryz.func13, Tryz.ntmps13
  go_wp2_with fail
  refine (Call_any base g v m _ h hm hc).mono ?_
  rintro e w1 ⟨rfl, h1, hg1⟩
  have H1 := Lib.hid h1
  have HA1 : Hid (Apt (fun q => q = g ∨ v.ownBlock = some q) w w1) := Lib.hid (Apt.of_grown hg1 fun q h => by injection h with h; exact .inl h.symm)
  cases hcb : callB m with
  | false =>
    have HG : Hid (sPut m n b = (callS m, 8)) := Lib.hid (by rw [sPut, if_pos hcb])
    clear hcb h1
    go_wp2_with fail
    go_ret
    rw [HG.out]
    exact ⟨rfl, v, H1.out, HA1.out, fun q h => .inl h⟩
  | true =>
    have hcb' : ¬ callB m = false := by rw [hcb]; simp
    clear hcb
    go_wp2_with fail
    refine (Named_any n _ hn).mono ?_
    rintro e w2 ⟨rfl, rfl⟩
    cases hnb : nameB n with
    | false =>
      have HG : Hid (sPut m n b = (callS m, 1)) := Lib.hid (by rw [sPut, if_neg hcb', if_pos hnb])
      clear hnb h1 hcb'
      go_wp2_with fail
      go_ret
      rw [HG.out]
      exact ⟨rfl, v, H1.out, HA1.out, fun q h => .inl h⟩
    | true =>
      have hnb' : ¬ nameB n = false := by rw [hnb]; simp
      clear hnb
      have hl : (callS m).l = m.l := rfl
      have hr : (callS m).room = m.room := rfl
      have hA := At_any base g v (callS m) n w1 h1
      have hU := Used_any base g v (callS m) w1 h1 (by rw [hl]; exact hmu)
      rw [hl] at hA hU
      have k0 := h1.blk.cell 0
      have k3 := h1.blk.cell 3
      simp [hr] at k0 k3
      have hul : usedL m.l ≤ 1048576 := hmu
      obtain ⟨ul, hule⟩ : ∃ ul, ul = usedL m.l := ⟨_, rfl⟩
      rw [← hule] at hU hul
      have HUL := Lib.hid hule
      clear hule hmu
      rcases atI_ge n m.l with hai | ⟨i, o, hai, ho, hon⟩
      · rw [hai] at hA
        have hru := restU_none hai
        rw [← HUL.out] at hru
        by_cases hfull : (ul : Int) + b.length > m.room
        · have HG : Hid (sPut m n b = (callS m, 6)) := Lib.hid (by rw [sPut, if_neg hcb', if_neg hnb', if_pos (by rw [hru]; exact hfull)])
          clear h1 hcb' hnb' hru hai
          go_wp2_with fail
          refine hA.mono ?_
          rintro e w2 ⟨rfl, rfl⟩
          go_wp2_with fail
          refine hU.mono ?_
          rintro e w2 ⟨rfl, rfl⟩
          go_wp2_with fail
          go_ret
          rw [HG.out]
          exact ⟨rfl, v, H1.out, HA1.out, fun q h => .inl h⟩
        · have HG : Hid (sPut m n b = ({ callS m with l := m.l.take (insP n m.l) ++ (⟨n, b⟩ :: m.l.drop (insP n m.l)) }, 0)) := Lib.hid (by rw [sPut, if_neg hcb', if_neg hnb', if_neg (by rw [hru]; exact hfull), if_pos (by rw [hai]; omega)])
          obtain ⟨A, c, rfl, hc1, hc2⟩ := h1.form
          rw [hl] at hc1 k3
          have hlv : Lv 2 w1 (.slice A m.l.length c) (m.l.map obC) := h1.row.lv
          rw [hl] at H1
          have hgl := H1.out.blk.lt
          have hbg := H1.out.ge
          clear h1 hcb' hnb' hru hai
          go_wp2_with fail
          refine hA.mono ?_
          rintro e w2 ⟨rfl, rfl⟩
          go_wp2_with fail
          refine hU.mono ?_
          rintro e w2 ⟨rfl, rfl⟩
          clear hA hU
          go_wp2_with fail
          go_loop [9] (fun iv => ∃ k : Nat, k ≤ m.l.length ∧ iv = .int .i64 (k : Int) ∧ Hid (∀ o ∈ m.l.take k, ltB o.nm n = true)) (fun iv => m.l.length - (intOf iv).toNat)
          case atStart => exact ⟨0, Nat.zero_le _, rfl, Lib.hid (by simp)⟩
          case round =>
            obtain ⟨k, hk, rfl, HL⟩ := hrel
            by_cases hlt : k < m.l.length
            · obtain ⟨o, hko⟩ : ∃ o, m.l[k]? = some o := ⟨_, List.getElem?_eq_getElem hlt⟩
              obtain ⟨q, p, rfl, hq, c0, c1⟩ := H1.out.cells hko
              have HKO := Lib.hid hko
              clear hko
              cases hls : ltB o.nm n with
              | true =>
                have hq2 : Op.bytesLess (Bstr o.nm).toList (Bstr n).toList = true := by rw [Bstr_toList, Bstr_toList]; exact hls
                have HLS := Lib.hid hls
                clear hls
                go_wp2_with fail
                refine ⟨⟨k + 1, by omega, by go_num, Lib.hid fun x hx => ?_⟩, by simp [intOf]; omega⟩
                rw [take_snoc_st HKO.out] at hx
                rcases List.mem_append.1 hx with h | h
                · exact HL.out x h
                · simp at h
                  subst h
                  exact HLS.out
              | false =>
                have hq2 : Op.bytesLess (Bstr o.nm).toList (Bstr n).toList = false := by rw [Bstr_toList, Bstr_toList]; exact hls
                have HIN : Hid (insP n m.l = k) := Lib.hid (insP_at hk HL.out fun x hx => by
                  rw [HKO.out] at hx
                  injection hx with hx
                  subst hx
                  exact hls)
                clear hls
                obtain ⟨V, U, hsV, hsU, hV, hU⟩ := ob_cut hlv k hk hc1
                have hVo : ∀ y ∈ (m.l.map obC).take k, ∀ u ∈ y, u.oneCell' = true := fun y hy => obC_one m.l y (List.mem_of_mem_take hy)
                have hUo : ∀ y ∈ (m.l.map obC).drop k, ∀ u ∈ y, u.oneCell' = true := fun y hy => obC_one m.l y (List.mem_of_mem_drop hy)
                have hlt1 : ((m.l.map obC).take k).length ≤ 1000000 := by rw [List.length_take, List.length_map]; omega
                have hld1 : ((m.l.map obC).drop k).length ≤ 1000000 := by rw [List.length_drop, List.length_map]; omega
                generalize hxt : (m.l.map obC).take k = xt at *
                generalize hxd : (m.l.map obC).drop k = xd at *
                have HXT := Lib.hid hxt
                have HXD := Lib.hid hxd
                have ha : Below w1.heap.size w1 (w1.alloc (.cells #[] 99)) := (Below.refl _ _).alloc (Nat.le_refl _) _
                have hbw : base ≤ w1.heap.size := by omega
                have HVa := Lib.hid (hV.below ha)
                have HOa := Lib.hid (OwnL.none w1 2 base 99 hbw)
                clear hxt hxd hV
                go_wp2_with (at_builtin; refine wpList_append_elems _ objT rfl _ _ rfl base _ _ rfl HOa.out V _ rfl HVa.out hVo (by simp only [maxLen, List.length_nil]; omega) (by simp only [List.length_nil]; omega) (Nat.le_trans hbw ha.size) ?_)
                intro v2 w2 ho2 hg2 hv2
                have hB2 : Below w1.heap.size w1 w2 := ha.grown hg2 ha.size (fun z hz => by have : w1.heap.size = z := Option.some.inj hz; omega)
                replace hv2 : v2.ownBlock = some w1.heap.size ∨ v2.ownBlock = some (w1.alloc (.cells #[] 99)).heap.size := by simpa [Value.ownBlock] using hv2
                have hv2g : ∀ z, v2.ownBlock = some z → w1.heap.size ≤ z := fun z hz => by
                  have := ha.size
                  rcases hv2 with e | e <;> (rw [e] at hz; injection hz with hz; omega)
                have ha2 : Below w2.heap.size w2 (w2.alloc (.cells #[.string (Bstr n), .string (Bstr b)] 99)) := (Below.refl _ _).alloc (Nat.le_refl _) _
                have HO2 := Lib.hid (show OwnL 2 (w2.alloc (.cells #[.string (Bstr n), .string (Bstr b)] 99)) base 99 v2 xt from by simpa using ho2.below ha2)
                have HLit := Lib.hid (Lv.lit1 w2 [.string (Bstr n), .string (Bstr b)] 99)
                have hB2a := hB2.trans (ha2.mono hB2.size)
                have hbw2 : base ≤ (w2.alloc (.cells #[.string (Bstr n), .string (Bstr b)] 99)).heap.size := Nat.le_trans hbw hB2a.size
                clear ho2 hg2 hv2 HVa HOa ha hVo hsV
                go_wp2_with (at_builtin; refine wpList_append_elems _ objT rfl _ _ rfl base _ _ rfl HO2.out _ _ rfl HLit.out (by simp [Value.oneCell']) (by simp only [maxLen, List.length_singleton]; omega) (by simp only [List.length_singleton]; omega) hbw2 ?_)
                intro v3 w3 ho3 hg3 hv3
                have hB3 : Below w1.heap.size w1 w3 := hB2a.grown hg3 hB2a.size hv2g
                have hv3g : ∀ z, v3.ownBlock = some z → w1.heap.size ≤ z := fun z hz => by
                  rcases hv3 with e | e
                  · exact hv2g z (by rw [← e]; exact hz)
                  · rw [e] at hz
                    injection hz with hz
                    have := hB2a.size
                    simp at hz this
                    omega
                have k33 := (hB3.cell (p := ⟨g, 3, none⟩) hgl).trans k3
                have HO3 := Lib.hid ho3
                have HU3 := Lib.hid (hU.below hB3)
                have hbw3 : base ≤ w3.heap.size := Nat.le_trans hbw hB3.size
                clear ho3 hg3 hv3 HO2 HLit hB2a hbw2 hU ha2 hv2g hB2
                go_wp2_with (at_builtin; refine wpList_append_elems _ objT rfl _ _ rfl base _ _ rfl HO3.out U _ rfl HU3.out hUo (by simp only [maxLen, List.length_append, List.length_singleton]; omega) (by simp only [List.length_append, List.length_singleton]; omega) hbw3 ?_)
                intro v4 w4 ho4 hg4 hv4
                have hB4 : Below w1.heap.size w1 w4 := hB3.grown hg4 hB3.size hv3g
                have hv4g : ∀ z, v4.ownBlock = some z → w1.heap.size ≤ z := fun z hz => by
                  rcases hv4 with e | e
                  · exact hv3g z (by rw [← e]; exact hz)
                  · rw [e] at hz
                    injection hz with hz
                    have := hB3.size
                    omega
                have hblk4 := H1.out.blk.below hB4 hgl
                have k34 := (hB4.cell (p := ⟨g, 3, none⟩) hgl).trans k3
                have f34 := hblk4.frozen 3
                obtain ⟨A4, N4, c4, hv4f⟩ : ∃ a n c, v4 = .slice a n c := by
                  obtain ⟨a, c, h, _⟩ := ho4.lv.form
                  exact ⟨_, _, _, h⟩
                subst hv4f
                have HO4 := Lib.hid ho4
                clear ho4 hv4 hg4 HO3 HU3 hUo hsU k33
                go_wp2_with fail
                go_ret
                rw [HG.out]
                have hgs := grown_set w4 g 3 (.slice A4 N4 c4)
                have hne : (Value.slice A4 N4 c4).ownBlock ≠ some g := fun e => by have := hv4g g e; omega
                refine ⟨rfl, _, ⟨by simpa using hblk4.set_ 3 (.slice A4 N4 c4), ?_, hne, hbg⟩, HA1.out.trans ((Apt.of_below hB4).trans (Apt.of_grown hgs fun z hz => .inl (by injection hz with hz; exact hz.symm))), fun z hz => .inr (Nat.le_trans HA1.out.size (hv4g z hz))⟩
                have := HO4.out.kept hgs (.inr hne)
                rw [HIN.out]
                rw [← HXT.out, ← HXD.out] at this
                simpa [List.map_take, List.map_drop, obC] using this
            · have HIN : Hid (insP n m.l = k) := Lib.hid (insP_at hk HL.out fun x hx => by
                have := (List.getElem?_eq_some_iff.1 hx).1
                omega)
              obtain ⟨V, U, hsV, hsU, hV, hU⟩ := ob_cut hlv k hk hc1
              have hVo : ∀ y ∈ (m.l.map obC).take k, ∀ u ∈ y, u.oneCell' = true := fun y hy => obC_one m.l y (List.mem_of_mem_take hy)
              have hUo : ∀ y ∈ (m.l.map obC).drop k, ∀ u ∈ y, u.oneCell' = true := fun y hy => obC_one m.l y (List.mem_of_mem_drop hy)
              have hlt1 : ((m.l.map obC).take k).length ≤ 1000000 := by rw [List.length_take, List.length_map]; omega
              have hld1 : ((m.l.map obC).drop k).length ≤ 1000000 := by rw [List.length_drop, List.length_map]; omega
              generalize hxt : (m.l.map obC).take k = xt at *
              generalize hxd : (m.l.map obC).drop k = xd at *
              have HXT := Lib.hid hxt
              have HXD := Lib.hid hxd
              have ha : Below w1.heap.size w1 (w1.alloc (.cells #[] 99)) := (Below.refl _ _).alloc (Nat.le_refl _) _
              have hbw : base ≤ w1.heap.size := by omega
              have HVa := Lib.hid (hV.below ha)
              have HOa := Lib.hid (OwnL.none w1 2 base 99 hbw)
              clear hxt hxd hV
              go_wp2_with (at_builtin; refine wpList_append_elems _ objT rfl _ _ rfl base _ _ rfl HOa.out V _ rfl HVa.out hVo (by simp only [maxLen, List.length_nil]; omega) (by simp only [List.length_nil]; omega) (Nat.le_trans hbw ha.size) ?_)
              intro v2 w2 ho2 hg2 hv2
              have hB2 : Below w1.heap.size w1 w2 := ha.grown hg2 ha.size (fun z hz => by have : w1.heap.size = z := Option.some.inj hz; omega)
              replace hv2 : v2.ownBlock = some w1.heap.size ∨ v2.ownBlock = some (w1.alloc (.cells #[] 99)).heap.size := by simpa [Value.ownBlock] using hv2
              have hv2g : ∀ z, v2.ownBlock = some z → w1.heap.size ≤ z := fun z hz => by
                have := ha.size
                rcases hv2 with e | e <;> (rw [e] at hz; injection hz with hz; omega)
              have ha2 : Below w2.heap.size w2 (w2.alloc (.cells #[.string (Bstr n), .string (Bstr b)] 99)) := (Below.refl _ _).alloc (Nat.le_refl _) _
              have HO2 := Lib.hid (show OwnL 2 (w2.alloc (.cells #[.string (Bstr n), .string (Bstr b)] 99)) base 99 v2 xt from by simpa using ho2.below ha2)
              have HLit := Lib.hid (Lv.lit1 w2 [.string (Bstr n), .string (Bstr b)] 99)
              have hB2a := hB2.trans (ha2.mono hB2.size)
              have hbw2 : base ≤ (w2.alloc (.cells #[.string (Bstr n), .string (Bstr b)] 99)).heap.size := Nat.le_trans hbw hB2a.size
              clear ho2 hg2 hv2 HVa HOa ha hVo hsV
              go_wp2_with (at_builtin; refine wpList_append_elems _ objT rfl _ _ rfl base _ _ rfl HO2.out _ _ rfl HLit.out (by simp [Value.oneCell']) (by simp only [maxLen, List.length_singleton]; omega) (by simp only [List.length_singleton]; omega) hbw2 ?_)
              intro v3 w3 ho3 hg3 hv3
              have hB3 : Below w1.heap.size w1 w3 := hB2a.grown hg3 hB2a.size hv2g
              have hv3g : ∀ z, v3.ownBlock = some z → w1.heap.size ≤ z := fun z hz => by
                rcases hv3 with e | e
                · exact hv2g z (by rw [← e]; exact hz)
                · rw [e] at hz
                  injection hz with hz
                  have := hB2a.size
                  simp at hz this
                  omega
              have k33 := (hB3.cell (p := ⟨g, 3, none⟩) hgl).trans k3
              have HO3 := Lib.hid ho3
              have HU3 := Lib.hid (hU.below hB3)
              have hbw3 : base ≤ w3.heap.size := Nat.le_trans hbw hB3.size
              clear ho3 hg3 hv3 HO2 HLit hB2a hbw2 hU ha2 hv2g hB2
              go_wp2_with (at_builtin; refine wpList_append_elems _ objT rfl _ _ rfl base _ _ rfl HO3.out U _ rfl HU3.out hUo (by simp only [maxLen, List.length_append, List.length_singleton]; omega) (by simp only [List.length_append, List.length_singleton]; omega) hbw3 ?_)
              intro v4 w4 ho4 hg4 hv4
              have hB4 : Below w1.heap.size w1 w4 := hB3.grown hg4 hB3.size hv3g
              have hv4g : ∀ z, v4.ownBlock = some z → w1.heap.size ≤ z := fun z hz => by
                rcases hv4 with e | e
                · exact hv3g z (by rw [← e]; exact hz)
                · rw [e] at hz
                  injection hz with hz
                  have := hB3.size
                  omega
              have hblk4 := H1.out.blk.below hB4 hgl
              have k34 := (hB4.cell (p := ⟨g, 3, none⟩) hgl).trans k3
              have f34 := hblk4.frozen 3
              obtain ⟨A4, N4, c4, hv4f⟩ : ∃ a n c, v4 = .slice a n c := by
                obtain ⟨a, c, h, _⟩ := ho4.lv.form
                exact ⟨_, _, _, h⟩
              subst hv4f
              have HO4 := Lib.hid ho4
              clear ho4 hv4 hg4 HO3 HU3 hUo hsU k33
              go_wp2_with fail
              go_ret
              rw [HG.out]
              have hgs := grown_set w4 g 3 (.slice A4 N4 c4)
              have hne : (Value.slice A4 N4 c4).ownBlock ≠ some g := fun e => by have := hv4g g e; omega
              refine ⟨rfl, _, ⟨by simpa using hblk4.set_ 3 (.slice A4 N4 c4), ?_, hne, hbg⟩, HA1.out.trans ((Apt.of_below hB4).trans (Apt.of_grown hgs fun z hz => .inl (by injection hz with hz; exact hz.symm))), fun z hz => .inr (Nat.le_trans HA1.out.size (hv4g z hz))⟩
              have := HO4.out.kept hgs (.inr hne)
              rw [HIN.out]
              rw [← HXT.out, ← HXD.out] at this
              simpa [List.map_take, List.map_drop, obC] using this
      · rw [hai] at hA
        have hru := restU_some hai ho
        rw [← HUL.out] at hru
        have hob := usedL_at ho
        rw [← HUL.out] at hob
        rcases h1.row.at_ with ⟨_, h0⟩ | ⟨q, c, rfl, hc1, hc2, hq1, hq2, hqf⟩
        · have h0' := congrArg List.length h0
          rw [List.length_map, hl] at h0'
          have := (List.getElem?_eq_some_iff.1 ho).1
          simp at h0'
          rw [h0'] at this
          simp at this
        rw [List.length_map, hl] at *
        obtain ⟨q', p', he, _, c0, c1⟩ := h1.cells (i := i) (o := o) ho
        simp only [Option.some.injEq, Addr.mk.injEq, and_true] at he
        obtain ⟨rfl, rfl⟩ := he
        simp only [Nat.zero_add] at c0 c1
        have hil : i < m.l.length := (List.getElem?_eq_some_iff.1 ho).1
        have hf1 := hqf (i * 2 + 1)
        have hzo : (Bstr o.b).size = o.b.length := Bstr_size _
        have hne := h1.ne
        by_cases hfull : (ul : Int) - o.b.length + b.length > m.room
        · have HG : Hid (sPut m n b = (callS m, 6)) := Lib.hid (by rw [sPut, if_neg hcb', if_neg hnb', if_pos (by rw [hru]; exact hfull)])
          clear h1 hcb' hnb' hru hai hqf
          go_wp2_with fail
          refine hA.mono ?_
          rintro e w2 ⟨rfl, rfl⟩
          go_wp2_with fail
          refine hU.mono ?_
          rintro e w2 ⟨rfl, rfl⟩
          go_wp2_with fail
          go_ret
          rw [HG.out]
          exact ⟨rfl, _, H1.out, HA1.out, fun q h => .inl h⟩
        · have HG : Hid (sPut m n b = ({ callS m with l := m.l.set i ⟨n, b⟩ }, 0)) := Lib.hid (by rw [sPut, if_neg hcb', if_neg hnb', if_neg (by rw [hru]; exact hfull), if_neg (by rw [hai]; omega), hai, Int.toNat_natCast])
          have HO := Lib.hid ho
          have HON := Lib.hid hon
          clear h1 hcb' hnb' hru hai hqf ho hon
          go_wp2_with fail
          refine hA.mono ?_
          rintro e w2 ⟨rfl, rfl⟩
          go_wp2_with fail
          refine hU.mono ?_
          rintro e w2 ⟨rfl, rfl⟩
          go_wp2_with fail
          go_ret
          rw [HG.out]
          obtain ⟨hrow, hgr⟩ := H1.out.row.put_ (i := i) (j := 1) (x := obC o) (by rw [List.getElem?_map]; show Option.map obC m.l[i]? = _; rw [HO.out]; rfl) (by omega) (.string (Bstr b))
          refine ⟨rfl, _, ⟨H1.out.blk.grown hgr (fun e => hne e.symm), ?_, H1.out.ne, H1.out.ge⟩, HA1.out.trans (Apt.of_grown hgr fun z hz => .inr hz), fun q h => .inl h⟩
          have e : (m.l.map obC).set i ((obC o).set 1 (.string (Bstr b))) = (m.l.set i ⟨n, b⟩).map obC := by
            rw [List.map_set]
            simp [obC, HON.out]
          rw [← e]
          exact hrow

def sAlt (m : Sm) (n : List UInt8) (at_ : Int) (x : UInt8) : Sm × Bool :=
  if atI n m.l < 0 ∨ x = 0 ∨ at_ < 0 then (m, false) else match m.l[(atI n m.l).toNat]? with
    | some o => match o.b[at_.toNat]? with
      | some y => ({ m with l := m.l.set (atI n m.l).toNat ⟨n, o.b.set at_.toNat (y ^^^ x)⟩ }, true)
      | none => (m, false)
    | none => (m, false)

structure Sm.fine (m : Sm) (N : Nat) : Prop where
  room0 : 0 ≤ m.room
  room1 : m.room ≤ 1048576
  left0 : -1 ≤ m.left
  left1 : m.left ≤ 9223372036854775807
  calls0 : 0 ≤ m.calls
  calls1 : m.calls ≤ N
  len : m.l.length ≤ N
  used : usedL m.l ≤ 1048576

theorem Sm.fine.ok {m : Sm} {N : Nat} (h : m.fine N) (hN : N ≤ 1000000) : m.ok := ⟨h.room0, h.room1, h.left0, h.left1, h.calls0, by have := h.calls1; omega, by have := h.len; omega, h.used⟩

theorem Sm.fine.more {m : Sm} {N M : Nat} (h : m.fine N) (hN : N ≤ M) : m.fine M := ⟨h.room0, h.room1, h.left0, h.left1, h.calls0, by have := h.calls1; omega, by have := h.len; omega, h.used⟩

theorem Sm.fine.call {m : Sm} {N : Nat} (h : m.fine N) : (callS m).fine (N + 1) := by
  have h1 := h.left0
  have h2 := h.left1
  have h3 := h.calls0
  have h4 := h.calls1
  have h5 := h.len
  refine ⟨h.room0, h.room1, ?_, ?_, ?_, ?_, ?_, h.used⟩
  · show -1 ≤ (if m.left ≤ 0 then (-1 : Int) else m.left - 1)
    split <;> omega
  · show (if m.left ≤ 0 then (-1 : Int) else m.left - 1) ≤ _
    split <;> omega
  · show 0 ≤ m.calls + 1
    omega
  · show m.calls + 1 ≤ _
    omega
  · show m.l.length ≤ N + 1
    omega

theorem Sm.fine.fail {m : Sm} {N : Nat} (h : m.fine N) (n : Int) (hn : n ≤ 9223372036854775807) : (failS m n).fine N := by
  refine ⟨h.room0, h.room1, ?_, ?_, h.calls0, h.calls1, h.len, h.used⟩
  · show -1 ≤ (if n < 0 then (-1 : Int) else n)
    split <;> omega
  · show (if n < 0 then (-1 : Int) else n) ≤ _
    split <;> omega

theorem usedL_append (l k : List Ob) : usedL (l ++ k) = usedL l + usedL k := by simp [usedL]

theorem usedL_cons (o : Ob) (l : List Ob) : usedL (o :: l) = o.b.length + usedL l := by simp [usedL]

theorem usedL_split (l : List Ob) (k : Nat) : usedL l = usedL (l.take k) + usedL (l.drop k) := by
  conv => lhs; rw [← List.take_append_drop k l]
  exact usedL_append _ _

theorem usedL_drop_le (l : List Ob) (k : Nat) : usedL (l.drop k) ≤ usedL l := by have := usedL_split l k; omega

theorem usedL_set : ∀ {l : List Ob} {i : Nat} {o : Ob} (p : Ob), l[i]? = some o → usedL (l.set i p) + o.b.length = usedL l + p.b.length
  | [], i, o, p, h => by simp at h
  | x :: l, 0, o, p, h => by
    simp at h
    subst h
    rw [List.set_cons_zero, usedL_cons, usedL_cons]
    omega
  | x :: l, i + 1, o, p, h => by
    have ih := usedL_set (l := l) (i := i) (o := o) p (by simpa using h)
    rw [List.set_cons_succ, usedL_cons, usedL_cons]
    omega

theorem Sm.fine.put {m : Sm} {N : Nat} (h : m.fine N) (n b : List UInt8) : (sPut m n b).1.fine (N + 1) := by
  have hc := h.call
  have hr := h.room1
  have hu := h.used
  have hl := h.len
  unfold sPut
  split
  · exact hc
  split
  · exact hc
  split
  · exact hc
  rename_i hfull
  split
  · rename_i hneg
    have hai : atI n m.l = -1 := by
      rcases atI_ge n m.l with e | ⟨i, o, e, _⟩
      · exact e
      · omega
    rw [restU_none hai] at hfull
    refine ⟨hc.room0, hc.room1, hc.left0, hc.left1, hc.calls0, hc.calls1, ?_, ?_⟩
    · show (m.l.take (insP n m.l) ++ (⟨n, b⟩ :: m.l.drop (insP n m.l))).length ≤ N + 1
      simp only [List.length_append, List.length_take, List.length_cons, List.length_drop]
      omega
    · show usedL (m.l.take (insP n m.l) ++ (⟨n, b⟩ :: m.l.drop (insP n m.l))) ≤ 1048576
      rw [usedL_append, usedL_cons]
      have := usedL_split m.l (insP n m.l)
      simp only
      omega
  · rename_i hneg
    rcases atI_ge n m.l with e | ⟨i, o, e, ho, _⟩
    · omega
    · rw [restU_some e ho] at hfull
      rw [e, Int.toNat_natCast]
      refine ⟨hc.room0, hc.room1, hc.left0, hc.left1, hc.calls0, hc.calls1, ?_, ?_⟩
      · show (m.l.set i ⟨n, b⟩).length ≤ N + 1
        rw [List.length_set]
        omega
      · show usedL (m.l.set i ⟨n, b⟩) ≤ 1048576
        have h1 := usedL_set (⟨n, b⟩ : Ob) ho
        simp only at h1
        omega

theorem Sm.fine.del {m : Sm} {N : Nat} (h : m.fine N) (n : List UInt8) : (sDel m n).1.fine (N + 1) := by
  have hc := h.call
  have hu := h.used
  have hl := h.len
  unfold sDel
  split
  · exact hc
  split
  · exact hc
  · refine ⟨hc.room0, hc.room1, hc.left0, hc.left1, hc.calls0, hc.calls1, ?_, ?_⟩
    · show (m.l.take (atI n m.l).toNat ++ m.l.drop ((atI n m.l).toNat + 1)).length ≤ N + 1
      simp only [List.length_append, List.length_take, List.length_drop]
      omega
    · show usedL (m.l.take (atI n m.l).toNat ++ m.l.drop ((atI n m.l).toNat + 1)) ≤ 1048576
      rw [usedL_append]
      have h1 := usedL_split m.l (atI n m.l).toNat
      have h2 := usedL_drop_le (m.l.drop (atI n m.l).toNat) 1
      rw [List.drop_drop] at h2
      omega

def fnd (n : List UInt8) (l : List Ob) : Option Ob := l.find? fun o => decide (o.nm = n)

theorem fnd_at {n : List UInt8} : ∀ {l : List Ob} {o : Ob}, fnd n l = some o → ∃ i : Nat, atI n l = i ∧ l[i]? = some o
  | [], o, h => by simp [fnd] at h
  | x :: l, o, h => by
    rw [fnd, List.find?_cons] at h
    by_cases hx : x.nm = n
    · rw [decide_eq_true hx] at h
      injection h with h
      subst h
      exact ⟨0, by rw [atI, if_pos hx]; rfl, rfl⟩
    · rw [decide_eq_false hx] at h
      obtain ⟨i, h1, h2⟩ := fnd_at (n := n) (l := l) h
      exact ⟨i + 1, by rw [atI, if_neg hx, h1, if_neg (by omega)]; omega, by simpa using h2⟩

theorem fnd_append (n : List UInt8) (l k : List Ob) : fnd n (l ++ k) = (fnd n l).or (fnd n k) := by simp [fnd, List.find?_append]

theorem fnd_cons_ne {n : List UInt8} {o : Ob} (h : o.nm ≠ n) (l : List Ob) : fnd n (o :: l) = fnd n l := by rw [fnd, List.find?_cons, decide_eq_false h]; rfl

theorem fnd_split (n : List UInt8) (l : List Ob) (k : Nat) : fnd n l = (fnd n (l.take k)).or (fnd n (l.drop k)) := by
  conv => lhs; rw [← List.take_append_drop k l]
  exact fnd_append _ _ _

theorem fnd_set {n : List UInt8} : ∀ {l : List Ob} {i : Nat} {o : Ob} (p : Ob), l[i]? = some o → o.nm ≠ n → p.nm ≠ n → fnd n (l.set i p) = fnd n l
  | [], i, o, p, h, _, _ => by simp at h
  | x :: l, 0, o, p, h, h1, h2 => by
    simp at h
    subst h
    rw [List.set_cons_zero, fnd_cons_ne h2, fnd_cons_ne h1]
  | x :: l, i + 1, o, p, h, h1, h2 => by
    have ih := fnd_set (n := n) (l := l) (i := i) p (by simpa using h) h1 h2
    rw [List.set_cons_succ, fnd, fnd, List.find?_cons, List.find?_cons]
    cases decide (x.nm = n) with
    | true => rfl
    | false => exact ih

theorem fnd_put {m : Sm} {n n' b : List UInt8} (h : n' ≠ n) : fnd n (sPut m n' b).1.l = fnd n m.l := by
  unfold sPut
  split
  · rfl
  split
  · rfl
  split
  · rfl
  split
  · show fnd n (m.l.take (insP n' m.l) ++ (⟨n', b⟩ :: m.l.drop (insP n' m.l))) = _
    rw [fnd_append, fnd_cons_ne h, ← fnd_split]
  · rename_i hneg
    rcases atI_ge n' m.l with e | ⟨i, o, e, ho, hn⟩
    · omega
    · show fnd n (m.l.set (atI n' m.l).toNat ⟨n', b⟩) = _
      rw [e, Int.toNat_natCast]
      exact fnd_set _ ho (by rw [hn]; exact h) h

theorem fnd_del {m : Sm} {n n' : List UInt8} (h : n' ≠ n) : fnd n (sDel m n').1.l = fnd n m.l := by
  unfold sDel
  split
  · rfl
  split
  · rfl
  · rename_i hneg
    rcases atI_ge n' m.l with e | ⟨i, o, e, ho, hn⟩
    · omega
    · show fnd n (m.l.take (atI n' m.l).toNat ++ m.l.drop ((atI n' m.l).toNat + 1)) = _
      rw [e, Int.toNat_natCast, fnd_append, fnd_split n m.l i]
      have hil := (List.getElem?_eq_some_iff.1 ho).1
      have hd : m.l.drop i = o :: m.l.drop (i + 1) := by
        rw [List.drop_eq_getElem_cons hil, (List.getElem?_eq_some_iff.1 ho).2]
      rw [hd, fnd_cons_ne (by rw [hn]; exact h)]

theorem fnd_set_same {n : List UInt8} : ∀ {l : List Ob} {i : Nat} {o : Ob} (b : List UInt8), atI n l = i → l[i]? = some o → fnd n (l.set i ⟨n, b⟩) = some ⟨n, b⟩
  | [], i, o, b, h, ho => by simp at ho
  | x :: l, i, o, b, h, ho => by
    rw [atI] at h
    by_cases hx : x.nm = n
    · rw [if_pos hx] at h
      have : i = 0 := by omega
      subst this
      rw [List.set_cons_zero, fnd, List.find?_cons]
      simp
    · rw [if_neg hx] at h
      split at h
      · omega
      · obtain ⟨j, rfl⟩ : ∃ j, i = j + 1 := ⟨i - 1, by omega⟩
        rw [List.set_cons_succ, fnd_cons_ne hx]
        exact fnd_set_same (n := n) (l := l) (i := j) b (by omega) (by simpa using ho)

theorem sGet_fnd {m : Sm} {n : List UInt8} {o : Ob} (hc : callB m = true) (h : fnd n m.l = some o) : sGet m n = (o.b, 0) := by
  obtain ⟨i, e, ho⟩ := fnd_at h
  exact sGet_some hc e ho

theorem ltB_eq : ∀ (x y : List UInt8), ltB x y = decide (x < y)
  | [], [] => by simp [ltB, Op.bytesLess]
  | _ :: _, [] => by simp [ltB, Op.bytesLess]
  | [], _ :: _ => by simp [ltB, Op.bytesLess]
  | a :: x, b :: y => by
    have ih := ltB_eq x y
    unfold ltB at ih ⊢
    rw [Op.bytesLess, ih]
    simp only [List.cons_lt_cons_iff]
    by_cases h1 : a < b <;> by_cases h2 : a = b <;> by_cases h3 : x < y <;> simp [h1, h2, h3]

def Rise (l : List Ob) : Prop := l.Pairwise fun a b => a.nm < b.nm

theorem Rise.nil : Rise [] := List.Pairwise.nil

theorem Rise.ne {l : List Ob} (h : Rise l) : l.Pairwise fun a b => a.nm ≠ b.nm := h.imp fun {a b} hab e => by rw [e] at hab; exact List.lt_irrefl _ hab

theorem fnd_none_iff {n : List UInt8} {l : List Ob} : fnd n l = none ↔ ∀ o ∈ l, o.nm ≠ n := by
  unfold fnd
  rw [List.find?_eq_none]
  simp

theorem fnd_some_nm {n : List UInt8} {l : List Ob} {o : Ob} (h : fnd n l = some o) : o.nm = n := by
  have := List.find?_some h
  simpa using this

theorem fnd_some_mem {n : List UInt8} {l : List Ob} {o : Ob} (h : fnd n l = some o) : o ∈ l := List.mem_of_find?_eq_some h

theorem fnd_of_mem {l : List Ob} (h : Rise l) {o : Ob} (ho : o ∈ l) : fnd o.nm l = some o := by
  induction l with
  | nil => cases ho
  | cons x l ih =>
    obtain ⟨h1, h2⟩ := List.pairwise_cons.1 h
    rcases List.mem_cons.1 ho with rfl | hm
    · simp [fnd]
    · have hne : x.nm ≠ o.nm := fun e => by
        have := h1 o hm
        rw [e] at this
        exact List.lt_irrefl _ this
      rw [fnd_cons_ne hne]
      exact ih h2 hm

theorem atI_of_none {n : List UInt8} {l : List Ob} (h : fnd n l = none) : atI n l = -1 := atI_none (fnd_none_iff.1 h)

theorem fnd_of_at {n : List UInt8} {l : List Ob} (h : atI n l = -1) : fnd n l = none := by
  cases hf : fnd n l with
  | none => rfl
  | some o =>
    obtain ⟨i, e, _⟩ := fnd_at hf
    omega

/-! ### Put -/
theorem insP_before (n : List UInt8) : ∀ (l : List Ob), ∀ o ∈ l.take (insP n l), o.nm < n
  | [], o, h => by simp at h
  | x :: l, o, h => by
    rw [insP] at h
    split at h
    · rename_i hx
      rw [List.take_succ_cons] at h
      rcases List.mem_cons.1 h with rfl | h
      · rw [ltB_eq] at hx
        simpa using hx
      · exact insP_before n l o h
    · simp at h

theorem insP_behind (n : List UInt8) : ∀ (l : List Ob), Rise l → ∀ o ∈ l.drop (insP n l), ¬ o.nm < n
  | [], _, o, h => by simp at h
  | x :: l, hr, o, h => by
    obtain ⟨h1, h2⟩ := List.pairwise_cons.1 hr
    rw [insP] at h
    split at h
    · rw [List.drop_succ_cons] at h
      exact insP_behind n l h2 o h
    · rename_i hx
      rw [ltB_eq] at hx
      have hx' : ¬ x.nm < n := by simpa using hx
      rw [List.drop_zero] at h
      rcases List.mem_cons.1 h with rfl | h
      · exact hx'
      · exact fun ho => hx' (List.lt_trans (h1 o h) ho)

theorem rise_ins {n b : List UInt8} {l : List Ob} (h : Rise l) (hn : fnd n l = none) : Rise (l.take (insP n l) ++ (⟨n, b⟩ :: l.drop (insP n l))) := by
  have hs : Rise (l.take (insP n l) ++ l.drop (insP n l)) := by rw [List.take_append_drop]; exact h
  obtain ⟨h1, h2, h3⟩ := List.pairwise_append.1 hs
  refine List.pairwise_append.2 ⟨h1, List.pairwise_cons.2 ⟨fun o ho => ?_, h2⟩, fun a ha c hc => ?_⟩
  · show n < o.nm
    have hge := insP_behind n l h o ho
    have hne := fnd_none_iff.1 hn o (List.mem_of_mem_drop ho)
    by_cases hlt : n < o.nm
    · exact hlt
    · exact absurd (List.le_antisymm (List.not_lt.1 hlt) (List.not_lt.1 hge)) hne
  · rcases List.mem_cons.1 hc with rfl | hc
    · exact insP_before n l a ha
    · exact h3 a ha c hc

theorem rise_set {l : List Ob} (h : Rise l) {i : Nat} {o p : Ob} (ho : l[i]? = some o) (hp : p.nm = o.nm) : Rise (l.set i p) := by
  have e : (l.set i p).map (·.nm) = l.map (·.nm) := by
    rw [List.map_set, hp]
    have : (l.map (·.nm))[i]? = some o.nm := by rw [List.getElem?_map, ho]; rfl
    obtain ⟨hi, he⟩ := List.getElem?_eq_some_iff.1 this
    rw [← he, List.set_getElem_self]
  have h1 : (l.map (·.nm)).Pairwise (· < ·) := List.pairwise_map.2 h
  rw [← e] at h1
  exact List.pairwise_map.1 h1

theorem sPut_ok {m : Sm} {n b : List UInt8} (h1 : callB m = true) (h2 : nameB n = true) (h3 : ¬ restU m n + b.length > m.room) (hr : Rise m.l) : ∃ l', sPut m n b = ({ callS m with l := l' }, 0) ∧ Rise l' ∧ (usedL l' : Int) = restU m n + b.length ∧
    fnd n l' = some ⟨n, b⟩ ∧ ∀ s, s ≠ n → fnd s l' = fnd s m.l := by
  have h1' : ¬ callB m = false := by rw [h1]; simp
  have h2' : ¬ nameB n = false := by rw [h2]; simp
  have ho : ∀ s, s ≠ n → fnd s (sPut m n b).1.l = fnd s m.l := fun s hs => fnd_put (Ne.symm hs)
  by_cases hneg : atI n m.l < 0
  · have hai : atI n m.l = -1 := by
      rcases atI_ge n m.l with e | ⟨i, o, e, _⟩
      · exact e
      · omega
    have e : sPut m n b = ({ callS m with l := m.l.take (insP n m.l) ++ (⟨n, b⟩ :: m.l.drop (insP n m.l)) }, 0) := by rw [sPut, if_neg h1', if_neg h2', if_neg h3, if_pos hneg]
    rw [e] at ho
    refine ⟨_, e, rise_ins hr (fnd_of_at hai), ?_, ?_, ho⟩
    · rw [restU_none hai, usedL_append, usedL_cons]
      have := usedL_split m.l (insP n m.l)
      simp only
      omega
    · have hno : fnd n (m.l.take (insP n m.l)) = none := fnd_none_iff.2 fun o ho => fnd_none_iff.1 (fnd_of_at hai) o (List.mem_of_mem_take ho)
      rw [fnd_append, hno, fnd, List.find?_cons]
      simp
  · rcases atI_ge n m.l with e | ⟨i, o, e, ho', hon⟩
    · omega
    · have e' : sPut m n b = ({ callS m with l := m.l.set i ⟨n, b⟩ }, 0) := by rw [sPut, if_neg h1', if_neg h2', if_neg h3, if_neg hneg, e, Int.toNat_natCast]
      rw [e'] at ho
      refine ⟨_, e', rise_set hr ho' hon.symm, ?_, fnd_set_same b e ho', ho⟩
      rw [restU_some e ho']
      have := usedL_set (⟨n, b⟩ : Ob) ho'
      simp only at this
      omega

theorem sPut_e8 {m : Sm} {n b : List UInt8} (h1 : callB m = false) : sPut m n b = (callS m, 8) := by rw [sPut, if_pos h1]

theorem sPut_e1 {m : Sm} {n b : List UInt8} (h1 : callB m = true) (h2 : nameB n = false) : sPut m n b = (callS m, 1) := by rw [sPut, if_neg (by rw [h1]; simp), if_pos h2]

theorem sPut_e6 {m : Sm} {n b : List UInt8} (h1 : callB m = true) (h2 : nameB n = true) (h3 : restU m n + b.length > m.room) : sPut m n b = (callS m, 6) := by rw [sPut, if_neg (by rw [h1]; simp), if_neg (by rw [h2]; simp), if_pos h3]

def obLen : Option Ob → Int
  | some o => (o.b.length : Int)
  | none => 0

theorem restU_fnd {m : Sm} {n : List UInt8} : restU m n = (usedL m.l : Int) - obLen (fnd n m.l) := by
  cases hf : fnd n m.l with
  | none => simp [restU_none (atI_of_none hf), obLen]
  | some o =>
    obtain ⟨i, e, ho⟩ := fnd_at hf
    rw [restU_some e ho]
    rfl

theorem usedL_fnd {n : List UInt8} {l : List Ob} {o : Ob} (h : fnd n l = some o) : o.b.length ≤ usedL l := by
  obtain ⟨i, _, ho⟩ := fnd_at h
  exact usedL_at ho

/-! ### Delete -/
theorem sDel_ok {m : Sm} {n : List UInt8} {o : Ob} (h1 : callB m = true) (hf : fnd n m.l = some o) (hr : Rise m.l) : ∃ l', sDel m n = ({ callS m with l := l' }, 0) ∧ Rise l' ∧ usedL l' + o.b.length = usedL m.l ∧ fnd n l' = none ∧ ∀ s, s ≠ n → fnd s l' = fnd s m.l := by
  obtain ⟨i, e, ho⟩ := fnd_at hf
  have hd : ∀ s, s ≠ n → fnd s (sDel m n).1.l = fnd s m.l := fun s hs => fnd_del (Ne.symm hs)
  have e' := sDel_some h1 e
  rw [e'] at hd
  have hil := (List.getElem?_eq_some_iff.1 ho).1
  have hdr : m.l.drop i = o :: m.l.drop (i + 1) := by rw [List.drop_eq_getElem_cons hil, (List.getElem?_eq_some_iff.1 ho).2]
  have hs : Rise (m.l.take i ++ m.l.drop i) := by rw [List.take_append_drop]; exact hr
  rw [hdr] at hs
  obtain ⟨r1, r2, r3⟩ := List.pairwise_append.1 hs
  obtain ⟨r4, r5⟩ := List.pairwise_cons.1 r2
  have hon := fnd_some_nm hf
  refine ⟨_, e', List.pairwise_append.2 ⟨r1, r5, fun a ha c hc => r3 a ha c (List.mem_cons_of_mem _ hc)⟩, ?_, ?_, hd⟩
  · rw [usedL_append]
    have h1 := usedL_split m.l i
    rw [hdr, usedL_cons] at h1
    omega
  · refine fnd_none_iff.2 fun x hx hxn => ?_
    rcases List.mem_append.1 hx with h | h
    · have := r3 x h o (List.mem_cons_self ..)
      rw [hon, hxn] at this
      exact List.lt_irrefl _ this
    · have := r4 x h
      rw [hon, hxn] at this
      exact List.lt_irrefl _ this

theorem sDel_no {m : Sm} {n : List UInt8} (h1 : callB m = true) (hf : fnd n m.l = none) : sDel m n = (callS m, 4) := sDel_none h1 (atI_of_none hf)

theorem sGet_no {m : Sm} {n : List UInt8} (h1 : callB m = true) (hf : fnd n m.l = none) : sGet m n = ([], 4) := sGet_none h1 (atI_of_none hf)

/-! ### Alter -/
/-! ### List -/
theorem rise_names {l : List Ob} (h : Rise l) (p : List UInt8) : (sNames l p).Pairwise (· < ·) := by
  unfold sNames
  exact List.pairwise_map.2 (h.sublist List.filter_sublist)

theorem mem_names {l : List Ob} (h : Rise l) {p s : List UInt8} : s ∈ sNames l p ↔ (fnd s l).isSome = true ∧ begB s p = true := by
  unfold sNames
  rw [List.mem_map]
  constructor
  · rintro ⟨o, ho, rfl⟩
    obtain ⟨h1, h2⟩ := List.mem_filter.1 ho
    rw [fnd_of_mem h h1]
    exact ⟨rfl, h2⟩
  · rintro ⟨h1, h2⟩
    obtain ⟨o, ho⟩ := Option.isSome_iff_exists.1 h1
    have hn := fnd_some_nm ho
    exact ⟨o, List.mem_filter.2 ⟨fnd_some_mem ho, by rw [hn]; exact h2⟩, hn⟩

theorem names_sorted {l : List Ob} (h : Rise l) {p : List UInt8} {ss : List (List UInt8)} (hnd : ss.Nodup) (hm : ∀ s, s ∈ ss ↔ (fnd s l).isSome = true ∧ begB s p = true) : ss.mergeSort (fun x y => decide (x ≤ y)) = sNames l p := by
  have hr := rise_names h p
  have hnd2 : (sNames l p).Nodup := hr.imp fun {a b} hab e => by rw [e] at hab; exact List.lt_irrefl _ hab
  have hp : ss.Perm (sNames l p) := (List.perm_ext_iff_of_nodup hnd hnd2).2 fun s => by rw [hm s, mem_names h]
  refine (mergeSort_of_perm hp).trans (List.mergeSort_of_pairwise ?_)
  exact hr.imp fun {a b} hab => by simpa using List.le_of_lt hab

end Go.Proofs.YtgafidnbmoomiaaGreatDoor

/-
  A STORE, as plain lists; CONTRACTS of the document's store: Call, At, Used, Fail, Get; Named, Begins, Names. Conditions: what each says.
-/
import Derived.Test.YtihpnkhkbbakbaaWordG
import Derived.Test.YtihpnkhkbbakbaaMix
import Derived.Test.YtihpnkhkbbakbaaKee
namespace Go.Proofs.Ytihpnkhkbbakbaa
open Go.RowKit
set_option maxRecDepth 100000

/-- an object -/
structure Ob where
  nm : List UInt8
  b : List UInt8
/-- its cells -/
def obC (o : Ob) : List Value := [.string (Bstr o.nm), .string (Bstr o.b)]
/-- a store, as the document has it -/
structure Sm where
  room : Int
  left : Int
  calls : Int
  l : List Ob

theorem objT : ElemT Try.prog 31 57 2 32 := ⟨Try.underlying31, by omega, by
  refine ⟨_, _, rfl, rfl, rfl, rfl, ?_⟩
  rfl⟩

/-- the document's store in block g, its objects in the row v, of the call's own from 'base' on -/
structure DS (w : World) (base g : Nat) (v : Value) (m : Sm) : Prop where
  blk : Blk w g 33 #[.int .i64 m.room, .int .i64 m.left, .int .i64 m.calls, v]
  row : OwnL 2 w base 57 v (m.l.map obC)
  ne : v.ownBlock ≠ some g
  ge : base ≤ g
/-- its numbers are small -/
structure Sm.ok (m : Sm) : Prop where
  room0 : 0 ≤ m.room
  room1 : m.room ≤ 1048576
  left0 : -1 ≤ m.left
  left1 : m.left ≤ 9223372036854775807
  calls0 : 0 ≤ m.calls
  calls1 : m.calls ≤ 1000000000
  len : m.l.length ≤ 1000000
  used : (m.l.map fun o => o.b.length).sum ≤ 1048576

section
variable {w w' : World} {base g : Nat} {v : Value} {m : Sm}
theorem DS.below (h : DS w base g v m) (hb : Below w.heap.size w w') : DS w' base g v m := ⟨h.blk.below hb h.blk.lt, h.row.below hb, h.ne, h.ge⟩
theorem DS.form (h : DS w base g v m) : ∃ A c, v = .slice A m.l.length c ∧ m.l.length ≤ c ∧ c ≤ 9223372036854775807 := by
  obtain ⟨A, c, hv, h1, h2⟩ := h.row.lv.form
  rw [List.length_map] at hv h1
  exact ⟨A, c, hv, h1, h2⟩
/-- the cells of one object -/
theorem DS.cells {A : Option Addr} {n c : Nat} (h : DS w base g (.slice A n c) m) {i : Nat} {o : Ob} (hi : m.l[i]? = some o) :
    ∃ q p, A = some ⟨q, p, none⟩ ∧ q < w.heap.size ∧ w.cell? ⟨q, p + i * 2, none⟩ = some (.string (Bstr o.nm)) ∧ w.cell? ⟨q, p + i * 2 + 1, none⟩ = some (.string (Bstr o.b)) := by
  obtain ⟨q, p, hA, hq, hc⟩ := h.row.lv.cells (by omega) (i := i) (x := obC o) (by rw [List.getElem?_map, hi]; rfl)
  exact ⟨q, p, hA, hq, hc 0 _ rfl, hc 1 _ rfl⟩
end

/-- where a name is; below 0: nowhere -/
def atI (n : List UInt8) : List Ob → Int
  | [] => -1
  | o :: l => if o.nm = n then 0 else if atI n l < 0 then -1 else atI n l + 1
theorem atI_none {n : List UInt8} : ∀ {l : List Ob}, (∀ o ∈ l, o.nm ≠ n) → atI n l = -1
  | [], _ => rfl
  | o :: l, h => by
    rw [atI, if_neg (h o (List.mem_cons_self ..)), atI_none fun x hx => h x (List.mem_cons_of_mem _ hx)]
    rfl
theorem atI_some {n : List UInt8} : ∀ {l : List Ob} {i : Nat} {o : Ob}, l[i]? = some o → o.nm = n → (∀ x ∈ l.take i, x.nm ≠ n) → atI n l = i
  | [], i, o, h, _, _ => by simp at h
  | x :: l, 0, o, h, hn, _ => by
    simp at h
    subst h
    rw [atI, if_pos hn]
    rfl
  | x :: l, i + 1, o, h, hn, hb => by
    have hx : x.nm ≠ n := hb x (by simp)
    have ih := atI_some (l := l) (i := i) (o := o) (by simpa using h) hn fun y hy => hb y (by simp [hy])
    rw [atI, if_neg hx, ih, if_neg (by omega)]
    omega

theorem take_snoc_st {α : Type} {l : List α} {k : Nat} {s : α} (h : l[k]? = some s) : l.take (k + 1) = l.take k ++ [s] := by
  obtain ⟨hk, rfl⟩ := List.getElem?_eq_some_iff.1 h
  exact List.take_succ_eq_append_getElem hk

set_option maxHeartbeats 800000 in
theorem At_any (base g : Nat) (v : Value) (m : Sm) (n : List UInt8) (w : World) (h : DS w base g v m) :
    Calls Try.prog 31 #[.pointer (some ⟨g, 0, none⟩), .string (Bstr n)] w fun e w' => e = .returned (.int .i64 (atI n m.l)) ∧ w = w' := by
  have H := Lib.hid h
  obtain ⟨A, c, rfl, hc1, hc2⟩ := h.form
  have k3 := h.blk.cell 3
  simp at k3
  clear h
  go_enter Try.func31, Try.ntmps31
  go_wp2_with fail
  go_loop [5] (fun iv => ∃ k : Nat, k ≤ m.l.length ∧ iv = .int .i64 (k : Int) ∧ Hid (∀ x ∈ m.l.take k, x.nm ≠ n)) (fun iv => m.l.length - (intOf iv).toNat)
  case atStart => exact ⟨0, Nat.zero_le _, rfl, Lib.hid (by simp)⟩
  case round =>
    obtain ⟨k, hk, rfl, HN⟩ := hrel
    by_cases hlt : k < m.l.length
    · obtain ⟨o, hko⟩ : ∃ o, m.l[k]? = some o := ⟨_, List.getElem?_eq_getElem hlt⟩
      obtain ⟨q, p, rfl, hq, c0, c1⟩ := H.out.cells hko
      have HKO := Lib.hid hko
      clear hko
      by_cases he : o.nm = n
      · have hq : ((Bstr o.nm).toList == (Bstr n).toList) = true := by rw [he]; simp
        have HE := Lib.hid he
        clear he
        go_wp2_with fail
        go_ret
        exact ⟨ret_int (atI_some HKO.out HE.out HN.out).symm, rfl⟩
      · have hq : ((Bstr o.nm).toList == (Bstr n).toList) = false := by rw [Bstr_toList, Bstr_toList]; simpa using he
        have HE := Lib.hid he
        clear he
        go_wp2_with fail
        refine ⟨⟨k + 1, by omega, by go_num, Lib.hid fun x hx => ?_⟩, by simp [intOf]; omega⟩
        rw [take_snoc_st HKO.out] at hx
        rcases List.mem_append.1 hx with h | h
        · exact HN.out x h
        · simp at h
          subst h
          exact HE.out
    · go_wp2_with fail
      go_ret
      refine ⟨ret_int (atI_none fun x hx => HN.out x ?_).symm, rfl⟩
      rw [List.take_of_length_le (by omega)]
      exact hx

/-- how many bytes all objects have -/
def usedL (l : List Ob) : Nat := (l.map fun o => o.b.length).sum
theorem usedL_snoc (l : List Ob) (o : Ob) : usedL (l ++ [o]) = usedL l + o.b.length := by simp [usedL]
theorem usedL_take (l : List Ob) (k : Nat) : usedL (l.take k) ≤ usedL l := by
  have : usedL l = usedL (l.take k) + usedL (l.drop k) := by
    conv => lhs; rw [← List.take_append_drop k l]
    simp only [usedL, List.map_append, List.sum_append]
  omega

set_option maxHeartbeats 800000 in
theorem Used_any (base g : Nat) (v : Value) (m : Sm) (w : World) (h : DS w base g v m) (hm : usedL m.l ≤ 1048576) :
    Calls Try.prog 24 #[.pointer (some ⟨g, 0, none⟩)] w fun e w' => e = .returned (.int .i64 ((usedL m.l : Nat) : Int)) ∧ w = w' := by
  have H := Lib.hid h
  obtain ⟨A, c, rfl, hc1, hc2⟩ := h.form
  have k3 := h.blk.cell 3
  simp at k3
  have HM := Lib.hid hm
  clear h hm
  go_enter Try.func24, Try.ntmps24
  go_wp2_with fail
  go_loop [3, 4] (fun nv iv => ∃ k n : Nat, k ≤ m.l.length ∧ iv = .int .i64 (k : Int) ∧ nv = .int .i64 (n : Int) ∧ n ≤ 1048576 ∧ Hid (n = usedL (m.l.take k))) (fun _ iv => m.l.length - (intOf iv).toNat)
  case atStart => exact ⟨0, 0, Nat.zero_le _, rfl, rfl, by omega, Lib.hid (by simp [usedL])⟩
  case round =>
    obtain ⟨k, n, hk, rfl, rfl, hn, HN⟩ := hrel
    by_cases hlt : k < m.l.length
    · obtain ⟨o, hko⟩ : ∃ o, m.l[k]? = some o := ⟨_, List.getElem?_eq_getElem hlt⟩
      obtain ⟨q, p, rfl, hq, c0, c1⟩ := H.out.cells hko
      have hs : (Bstr o.b).size = o.b.length := Bstr_size _
      have hsum : n + o.b.length ≤ 1048576 := by
        have h1 := usedL_take m.l (k + 1)
        have h2 := HM.out
        rw [take_snoc_st hko, usedL_snoc, ← HN.out] at h1
        omega
      have HN2 : Hid (n + o.b.length = usedL (m.l.take (k + 1))) := Lib.hid (by rw [take_snoc_st hko, usedL_snoc, HN.out])
      clear hko
      go_wp2_with fail
      exact ⟨⟨k + 1, n + o.b.length, by omega, by go_num, by go_num, hsum, HN2⟩, by simp [intOf]; omega⟩
    · have hkn : k = m.l.length := by omega
      subst hkn
      have e := HN.out
      rw [List.take_length] at e
      go_wp2_with fail
      go_ret
      exact ⟨rfl, rfl⟩

/-- does this call go well, and how many do behind it? -/
def callB (m : Sm) : Bool := !(m.left == 0)
def callS (m : Sm) : Sm := { m with calls := m.calls + 1, left := if m.left ≤ 0 then -1 else m.left - 1 }

set_option maxHeartbeats 800000 in
theorem Call_any (base g : Nat) (v : Value) (m : Sm) (w : World) (h : DS w base g v m) (hm : m.ok) (hc : m.calls < 1000000000) :
    Calls Try.prog 29 #[.pointer (some ⟨g, 0, none⟩)] w fun e w' => e = .returned (.bool (callB m)) ∧ DS w' base g v (callS m) ∧ w.grownBy w' (some g) := by
  have H := Lib.hid h
  have k1 := h.blk.cell 1
  have k2 := h.blk.cell 2
  have f1 := h.blk.frozen 1
  have f2 := h.blk.frozen 2
  simp at k1 k2
  obtain ⟨m1, m2, m3, m4, m5, m6, _, _⟩ := hm
  have hset1 : ∀ (x : Int), DS (w.setCell ⟨g, 2, none⟩ (.int .i64 x)) base g v { m with calls := x } ∧ w.grownBy (w.setCell ⟨g, 2, none⟩ (.int .i64 x)) (some g) := fun x => by
    have hg := grown_set w g 2 (.int .i64 x)
    exact ⟨⟨by simpa using H.out.blk.set_ 2 (.int .i64 x), H.out.row.kept hg (.inr H.out.ne), H.out.ne, H.out.ge⟩, hg⟩
  have hset : ∀ (x y : Int), DS ((w.setCell ⟨g, 2, none⟩ (.int .i64 x)).setCell ⟨g, 1, none⟩ (.int .i64 y)) base g v { m with calls := x, left := y } ∧ w.grownBy ((w.setCell ⟨g, 2, none⟩ (.int .i64 x)).setCell ⟨g, 1, none⟩ (.int .i64 y)) (some g) := fun x y => by
    obtain ⟨h1, hg1⟩ := hset1 x
    have hg2 := grown_set (w.setCell ⟨g, 2, none⟩ (.int .i64 x)) g 1 (.int .i64 y)
    exact ⟨⟨by simpa using h1.blk.set_ 1 (.int .i64 y), h1.row.kept hg2 (.inr h1.ne), h1.ne, h1.ge⟩, grown_trans hg1 hg2⟩
  have HS1 := Lib.hid hset1
  have HS := Lib.hid hset
  clear hset hset1 h
  rcases Int.lt_trichotomy m.left 0 with hl | hl | hl
  · have he : m.left = -1 := by omega
    have hb : Hid (callB m = true) := Lib.hid (by simp [callB, he])
    have hsm : Hid (callS m = { m with calls := m.calls + 1 }) := Lib.hid (by simp [callS, he])
    have hz : (m.left == 0) = false := by simp [he]
    have HE := Lib.hid he
    clear he
    go_enter Try.func29, Try.ntmps29
    go_wp2_with fail
    go_ret
    rw [hb.out, hsm.out]
    exact ⟨rfl, HS1.out _⟩
  · have hb : Hid (callB m = false) := Lib.hid (by simp [callB, hl])
    have hsm : Hid (callS m = { m with calls := m.calls + 1, left := -1 }) := Lib.hid (by simp [callS, hl])
    rw [hl] at k1
    clear hl
    go_enter Try.func29, Try.ntmps29
    go_wp2_with fail
    go_ret
    rw [hb.out, hsm.out]
    exact ⟨rfl, HS.out _ _⟩
  · have hb : Hid (callB m = true) := Lib.hid (by simp [callB]; omega)
    have hsm : Hid (callS m = { m with calls := m.calls + 1, left := m.left - 1 }) := Lib.hid (by rw [callS, if_neg (by omega)])
    have hz : (m.left == 0) = false := by simp; omega
    go_enter Try.func29, Try.ntmps29
    go_wp2_with fail
    go_ret
    rw [hb.out, hsm.out]
    exact ⟨rfl, HS.out _ _⟩

/-- Fail -/
def failS (m : Sm) (n : Int) : Sm := { m with left := if n < 0 then -1 else n }
set_option maxHeartbeats 800000 in
theorem Fail_any (base g : Nat) (v : Value) (m : Sm) (n : Int) (w : World) (h : DS w base g v m) :
    Calls Try.prog 18 #[.pointer (some ⟨g, 0, none⟩), .int .i64 n] w fun e w' => e = .returned (.tuple #[]) ∧ DS w' base g v (failS m n) ∧ w.grownBy w' (some g) := by
  have H := Lib.hid h
  have k1 := h.blk.cell 1
  have f1 := h.blk.frozen 1
  simp at k1
  have hset : ∀ (y : Int), DS (w.setCell ⟨g, 1, none⟩ (.int .i64 y)) base g v { m with left := y } ∧ w.grownBy (w.setCell ⟨g, 1, none⟩ (.int .i64 y)) (some g) := fun y => by
    have hg := grown_set w g 1 (.int .i64 y)
    exact ⟨⟨by simpa using H.out.blk.set_ 1 (.int .i64 y), H.out.row.kept hg (.inr H.out.ne), H.out.ne, H.out.ge⟩, hg⟩
  have HS := Lib.hid hset
  clear hset h
  by_cases hn : n < 0
  · have hsm : Hid (failS m n = { m with left := -1 }) := Lib.hid (by rw [failS, if_pos hn])
    go_enter Try.func18, Try.ntmps18
    go_wp2_with fail
    refine bodyPost_end (results_none rfl _ _ _) rfl ?_
    rw [hsm.out]
    obtain ⟨h1, hg1⟩ := HS.out n
    have hg2 := grown_set (w.setCell ⟨g, 1, none⟩ (.int .i64 n)) g 1 (.int .i64 (-1))
    exact ⟨rfl, ⟨by simpa using h1.blk.set_ 1 (.int .i64 (-1)), h1.row.kept hg2 (.inr h1.ne), h1.ne, h1.ge⟩, grown_trans hg1 hg2⟩
  · have hsm : Hid (failS m n = { m with left := n }) := Lib.hid (by rw [failS, if_neg hn])
    go_enter Try.func18, Try.ntmps18
    go_wp2_with fail
    refine bodyPost_end (results_none rfl _ _ _) rfl ?_
    rw [hsm.out]
    exact ⟨rfl, HS.out n⟩

/-- is it a byte of a name? -/
def nameC (c : Nat) : Bool := (decide (97 ≤ c) && decide (c ≤ 122)) || ((decide (48 ≤ c) && decide (c ≤ 57)) || (decide (c = 47) || decide (c = 45)))
def nameB (l : List UInt8) : Bool := l.all (fun c => nameC c.toNat) && (decide (0 < l.length) && decide (l.length ≤ 32))

theorem Bstr_get (n : List UInt8) (k : Nat) (h : k < (Bstr n).size) (h' : k < n.length) : (Bstr n)[k] = n[k] := by
  show (Bstr n).data[k]'h = _
  simp [Bstr]
theorem str_at {n : List UInt8} {k : Nat} {c : UInt8} {x : Nat} (h : n[k]? = some c) (hx : x = c.toNat) (u : World) : (Instr.index 9 (.string (Bstr n)) (.int .i64 (k : Int))).run Try.prog u = .ok (.int .u8 (x : Int)) u := by
  obtain ⟨hk, rfl⟩ := List.getElem?_eq_some_iff.1 h
  subst hx
  have hs := Bstr_size n
  rw [run_index_string u _ _ _ _ strT, dif_pos ⟨by omega, by omega⟩]
  simp only [Int.toNat_natCast]
  exact congrArg (fun b : UInt8 => Result.ok (Value.int .u8 (b.toNat : Int)) u) (Bstr_get n k (by omega) hk)

set_option maxHeartbeats 1600000 in
theorem Named_any (n : List UInt8) (w : World) (hl : n.length ≤ 1000000) :
    Calls Try.prog 30 #[.string (Bstr n)] w fun e w' => e = .returned (.bool (nameB n)) ∧ w = w' := by
  have hs : (Bstr n).size = n.length := Bstr_size _
  go_enter Try.func30, Try.ntmps30
  go_wp2_with fail
  go_loop [3] (fun iv => ∃ k : Nat, k ≤ n.length ∧ iv = .int .i64 (k : Int) ∧ Hid ((n.take k).all (fun c => nameC c.toNat) = true)) (fun iv => n.length - (intOf iv).toNat)
  case atStart => exact ⟨0, Nat.zero_le _, rfl, Lib.hid (by simp)⟩
  case round =>
    obtain ⟨k, hk, rfl, HN⟩ := hrel
    by_cases hlt : k < n.length
    · obtain ⟨c, hkc⟩ : ∃ c, n[k]? = some c := ⟨_, List.getElem?_eq_getElem hlt⟩
      obtain ⟨x, hx⟩ : ∃ x, x = c.toNat := ⟨_, rfl⟩
      have hix : ∀ u : World, (Instr.index 9 (.string (Bstr n)) (.int .i64 (k : Int))).run Try.prog u = .ok (.int .u8 (x : Int)) u := fun u => str_at hkc hx u
      have HGO : Hid (nameC x = true → (n.take (k + 1)).all (fun c => nameC c.toNat) = true) := Lib.hid fun h => by
        rw [take_snoc_st hkc, List.all_append, HN.out]
        simpa [← hx] using h
      have HNO : Hid (nameC x = false → nameB n = false) := Lib.hid fun h => by
        have : n.all (fun c => nameC c.toNat) = false := by
          rw [List.all_eq_false]
          exact ⟨c, List.mem_of_getElem? hkc, by rw [← hx, h]; simp⟩
        rw [nameB, this]
        rfl
      have hxl : x < 256 := by rw [hx]; exact c.toNat_lt
      clear hkc hx
      by_cases a1 : 97 ≤ x
      · by_cases a2 : x ≤ 122
        · have d2 : decide ((x : Int) ≤ 122) = true := decide_eq_true (by omega)
          go_wp2_with fail
          exact ⟨⟨k + 1, by omega, by go_num, Lib.hid (HGO.out (by first | (simp [nameC]; done) | (simp [nameC]; omega)))⟩, by simp [intOf]; omega⟩
        · have d2 : decide ((x : Int) ≤ 122) = false := decide_eq_false (by omega)
          have d4 : decide ((x : Int) ≤ 57) = false := decide_eq_false (by omega)
          have k47 : ((x : Int) == 47) = false := beq_eq_false_iff_ne.2 (by omega)
          have k45 : ((x : Int) == 45) = false := beq_eq_false_iff_ne.2 (by omega)
          go_wp2_with fail
          go_ret
          exact ⟨ret_bool (HNO.out (by simp [nameC]; omega)).symm, rfl⟩
      · by_cases a3 : 48 ≤ x
        · by_cases a4 : x ≤ 57
          · have d4 : decide ((x : Int) ≤ 57) = true := decide_eq_true (by omega)
            go_wp2_with fail
            exact ⟨⟨k + 1, by omega, by go_num, Lib.hid (HGO.out (by first | (simp [nameC]; done) | (simp [nameC]; omega)))⟩, by simp [intOf]; omega⟩
          · have d4 : decide ((x : Int) ≤ 57) = false := decide_eq_false (by omega)
            have k47 : ((x : Int) == 47) = false := beq_eq_false_iff_ne.2 (by omega)
            have k45 : ((x : Int) == 45) = false := beq_eq_false_iff_ne.2 (by omega)
            go_wp2_with fail
            go_ret
            exact ⟨ret_bool (HNO.out (by simp [nameC]; omega)).symm, rfl⟩
        · skip
          by_cases e47 : x = 47
          · have k47 : ((x : Int) == 47) = true := by simp [e47]
            have HX := Lib.hid e47
            subst e47
            go_wp2_with fail
            exact ⟨⟨k + 1, by omega, by go_num, Lib.hid (HGO.out (by first | (simp [nameC]; done) | (simp [nameC]; omega)))⟩, by simp [intOf]; omega⟩
          · have k47 : ((x : Int) == 47) = false := beq_eq_false_iff_ne.2 (by omega)
            by_cases e45 : x = 45
            · have k45 : ((x : Int) == 45) = true := by simp [e45]
              subst e45
              go_wp2_with fail
              exact ⟨⟨k + 1, by omega, by go_num, Lib.hid (HGO.out (by first | (simp [nameC]; done) | (simp [nameC]; omega)))⟩, by simp [intOf]; omega⟩
            · have k45 : ((x : Int) == 45) = false := beq_eq_false_iff_ne.2 (by omega)
              go_wp2_with fail
              go_ret
              exact ⟨ret_bool (HNO.out (by simp [nameC]; omega)).symm, rfl⟩
    · have e := HN.out
      rw [List.take_of_length_le (by omega)] at e
      have HE : Hid (nameB n = (decide (0 < n.length) && decide (n.length ≤ 32))) := Lib.hid (by rw [nameB, e]; rfl)
      clear e
      by_cases l0 : 0 < n.length
      · by_cases l1 : n.length ≤ 32
        · have HL : Hid (nameB n = true) := Lib.hid (by rw [HE.out]; simp [l0, l1])
          go_wp2_with fail
          go_ret
          exact ⟨ret_bool (by first | exact HL.out.symm | (rw [HL.out]; simp; omega)), rfl⟩
        · have HL : Hid (nameB n = false) := Lib.hid (by rw [HE.out]; simp [l1])
          go_wp2_with fail
          go_ret
          exact ⟨ret_bool (by first | exact HL.out.symm | (rw [HL.out]; simp; omega)), rfl⟩
      · have HL : Hid (nameB n = false) := Lib.hid (by rw [HE.out]; simp [l0])
        go_wp2_with fail
        go_ret
        exact ⟨ret_bool (by first | exact HL.out.symm | (rw [HL.out]; simp; omega)), rfl⟩

/-- does a text begin so? -/
def begB (s p : List UInt8) : Bool := decide (p.length ≤ s.length) && decide (s.take p.length = p)

theorem Bstr_take (s : List UInt8) (n : Nat) : (Bstr s).extract 0 n = Bstr (s.take n) := by
  apply ByteArray.ext
  simp [Bstr]

theorem Begins_any (s p : List UInt8) (w : World) (hp : p.length ≤ 1000000) :
    Calls Try.prog 34 #[.string (Bstr s), .string (Bstr p)] w fun e w' => e = .returned (.bool (begB s p)) ∧ w = w' := by
  have z1 : (Bstr s).size = s.length := Bstr_size _
  have z2 : (Bstr p).size = p.length := Bstr_size _
  by_cases hl : p.length ≤ s.length
  · have hsl : ∀ u : World, (Instr.slice 9 (.string (Bstr s)) none (some (.int .i64 (p.length : Int))) none).run Try.prog u = .ok (.string (Bstr (s.take p.length))) u := fun u => by
      rw [run_slice_string_h u _ _ strT .i64 (p.length : Int) (by omega) (by omega), Int.toNat_natCast, Bstr_take]
    have HE : Hid (begB s p = ((Bstr (s.take p.length)).toList == (Bstr p).toList)) := Lib.hid (by
      rw [Bstr_toList, Bstr_toList, begB, decide_eq_true hl]
      by_cases he : s.take p.length = p <;> simp [he])
    rw [HE.out]
    go_enter Try.func34, Try.ntmps34
    go_wp2_with fail
    go_ret
    exact ⟨rfl, rfl⟩
  · go_enter Try.func34, Try.ntmps34
    go_wp2_with fail
    go_ret
    exact ⟨ret_bool (by simp [begB, hl]), rfl⟩

/-- two slices of texts -/
def StL (w : World) (v : Value) (l : List (List UInt8)) : Prop := Lv 1 w v (l.map fun s => [.string (Bstr s)])
theorem StL.form {w : World} {v : Value} {l : List (List UInt8)} (h : StL w v l) : ∃ A c, v = .slice A l.length c ∧ l.length ≤ c ∧ c ≤ 9223372036854775807 := by
  obtain ⟨A, c, hv, h1, h2⟩ := Lv.form h
  rw [List.length_map] at hv h1
  exact ⟨A, c, hv, h1, h2⟩
theorem StL.cell {w : World} {A : Option Addr} {n c : Nat} {l : List (List UInt8)} (h : StL w (.slice A n c) l) {i : Nat} {s : List UInt8} (hi : l[i]? = some s) :
    ∃ q p, A = some ⟨q, p, none⟩ ∧ q < w.heap.size ∧ w.cell? ⟨q, p + i, none⟩ = some (.string (Bstr s)) := by
  obtain ⟨q, p, hA, hq, hc⟩ := Lv.cells h (by omega) (i := i) (x := [.string (Bstr s)]) (by rw [List.getElem?_map, hi]; rfl)
  exact ⟨q, p, hA, hq, by simpa using hc 0 _ rfl⟩

set_option maxHeartbeats 1600000 in
theorem Names_same (va vb : Value) (l : List (List UInt8)) (w : World) (ha : StL w va l) (hb : StL w vb l) :
    Calls Try.prog 14 #[va, vb] w fun e w' => e = .returned (.bool true) ∧ Below w.heap.size w w' := by
  have HA := Lib.hid ha
  have HB := Lib.hid hb
  obtain ⟨A, c, rfl, hc1, hc2⟩ := ha.form
  obtain ⟨A', c', rfl, hc1', hc2'⟩ := hb.form
  clear ha hb
  go_enter Try.func14, Try.ntmps14
  go_wp2_with fail
  go_loopw [5] (fun iv wr => ∃ k : Nat, k ≤ l.length ∧ iv = .int .i64 (k : Int) ∧ ∃ n, wr = w.drewN n) (fun iv _ => l.length - (intOf iv).toNat)
  case atStart => exact ⟨0, Nat.zero_le _, rfl, 0, rfl⟩
  case round =>
    obtain ⟨k, hk, rfl, n, rfl⟩ := hrel
    by_cases hlt : k < l.length
    · obtain ⟨s, hks⟩ : ∃ s, l[k]? = some s := ⟨_, List.getElem?_eq_getElem hlt⟩
      obtain ⟨q, p, rfl, hq, c0⟩ := HA.out.cell hks
      obtain ⟨q', p', rfl, hq', c0'⟩ := HB.out.cell hks
      have hb0 : (0 : Int) ≤ (k : Int) := by omega
      have hb1 : (k : Int) < (l.length : Int) := by omega
      have he : ((Bstr s).toList == (Bstr s).toList) = true := by simp
      clear hks
      go_wp2_with fail
      go_quiet (fail)
      go_wp2_with fail
      exact ⟨⟨k + 1, by omega, by go_num, _, rfl⟩, by simp [intOf]; omega⟩
    · go_wp2_with fail
      go_ret
      exact ⟨rfl, below_drewN (Below.refl _ _) _⟩

end Go.Proofs.Ytihpnkhkbbakbaa

/-
  NAMES, plain: an object's name, and what any name is of; CONTRACTS of the program's Name and the document's digits, Name, value. Conditions: what each says; of the library's variables: Ld.
  CONTRACTS of the document's Name, value and Parse. Conditions: what each says.
  CONTRACT of the document's Parse. Conditions: what it says.
-/
import Derived.Test.YtnghpcfdgjkokaaGreatDoorMtL
import Derived.Test.YtnghpcfdgjkokaaGreatDoorMix
import Derived.Lib.MinMax
namespace Go.Proofs.YtnghpcfdgjkokaaGreatDoor
open Go.RowKit
set_option maxRecDepth 100000

/-- a digit's value -/
def dval (c : UInt8) : Nat := if 97 ≤ c.toNat ∧ c.toNat ≤ 102 then c.toNat - 87 else c.toNat % 16
theorem dval_dchar (d : Nat) (h : d < 16) : dval (dchar d) = d := by
  have : ∀ k : Fin 16, dval (dchar k.val) = k.val := by decide
  exact this ⟨d, h⟩
theorem dval_lt (c : UInt8) : dval c < 16 := by
  unfold dval
  split <;> omega
def valD (b : Nat) (l : List UInt8) : Nat := l.foldl (fun a c => b * a + dval c) 0
theorem valD_snoc (b : Nat) (l : List UInt8) (c : UInt8) : valD b (l ++ [c]) = b * valD b l + dval c := by simp [valD]
theorem valD_digs (b : Nat) (hb : b ≤ 16) (hb0 : 0 < b) : ∀ (k n : Nat), valD b (digs b n k) = n % b ^ k
  | 0, n => by simp [digs, valD, Nat.mod_one]
  | k + 1, n => by
    rw [digs, valD_snoc, valD_digs b hb hb0 k, dval_dchar _ (Nat.lt_of_lt_of_le (Nat.mod_lt _ hb0) hb), Nat.pow_succ', Nat.mod_mul]
    omega
theorem digs_inj (b k : Nat) (hb : b ≤ 16) (hb0 : 0 < b) {m n : Nat} (hm : m < b ^ k) (hn : n < b ^ k) (h : digs b m k = digs b n k) : m = n := by
  have := congrArg (valD b) h
  rw [valD_digs b hb hb0, valD_digs b hb hb0, Nat.mod_eq_of_lt hm, Nat.mod_eq_of_lt hn] at this
  exact this
theorem valD_lt (l : List UInt8) : valD 16 l < 16 ^ l.length := by
  have key : ∀ (r : List UInt8) (a : Nat), r.foldl (fun a c => 16 * a + dval c) a < (a + 1) * 16 ^ r.length := by
    intro r
    induction r with
    | nil => intro a; simp
    | cons c r ih =>
      intro a
      have h1 := ih (16 * a + dval c)
      have h2 := dval_lt c
      rw [List.foldl_cons, List.length_cons, Nat.pow_succ']
      refine Nat.lt_of_lt_of_le h1 ?_
      rw [← Nat.mul_assoc]
      exact Nat.mul_le_mul_right _ (by omega)
  have := key l 0
  simpa [valD] using this

/-- the number of a page, in a name -/
def pgN (page : Int) : Nat := (max page 0 % 1000).toNat
theorem pgN_lt (page : Int) : pgN page < 1000 := by unfold pgN; omega
theorem pgN_nat (n : Nat) (h : n < 1000) : pgN (n : Int) = n := by unfold pgN; omega
def nmHead (id : Nat) : List UInt8 := [98, 47] ++ digs 16 id 16 ++ [47]
theorem nmHead_length (id : Nat) : (nmHead id).length = 19 := by simp [nmHead, digs_length]
/-- m, i, f or x -/
def sortW (what : List UInt8) : Prop := what = [109] ∨ what = [105] ∨ what = [102] ∨ what = [120]
instance (what : List UInt8) : Decidable (sortW what) := by unfold sortW; infer_instance
/-- an object's name -/
def nmOf (id : Nat) (what : List UInt8) (page : Int) : List UInt8 :=
  if sortW what then nmHead id ++ what else if what = [112] then nmHead id ++ [112] ++ digs 10 (pgN page) 3 else []
theorem sortW_len {what : List UInt8} (h : sortW what) : what.length = 1 := by
  rcases h with rfl | rfl | rfl | rfl <;> rfl
theorem sortW_p : ¬ sortW [112] := by decide
theorem nmOf_sort {id : Nat} {what : List UInt8} {page : Int} (h : sortW what) : nmOf id what page = nmHead id ++ what := if_pos h
theorem nmOf_p (id : Nat) (page : Int) : nmOf id [112] page = nmHead id ++ [112] ++ digs 10 (pgN page) 3 := by rw [nmOf, if_neg sortW_p, if_pos rfl]
theorem nmOf_none {id : Nat} {what : List UInt8} {page : Int} (h : ¬ sortW what) (hp : what ≠ [112]) : nmOf id what page = [] := by rw [nmOf, if_neg h, if_neg hp]

/-- the name s is that of what (m, i, f, x or p) of the block id, of that page -/
structure NamedAs (s : List UInt8) (id : Nat) (what : List UInt8) (n : Nat) : Prop where
  idlt : id < 18446744073709551616
  nlt : n < 1000
  kind : what = [112] ∨ (sortW what ∧ n = 0)
  eq : s = nmOf id what n
/-- its parts -/
theorem NamedAs.parts {s : List UInt8} {id : Nat} {what : List UInt8} {n : Nat} (h : NamedAs s id what n) :
    (s.drop 2).take 16 = digs 16 id 16 ∧ (s.drop 19).take 1 = what ∧ (what = [112] → s.drop 20 = digs 10 n 3 ∧ s.length = 23) ∧ (sortW what → s.length = 20) := by
  have hl := digs_length 16 id 16
  have hk := digs_length 10 n 3
  rcases h.kind with rfl | ⟨hw, rfl⟩
  · have e := h.eq
    rw [nmOf_p, pgN_nat n h.nlt, nmHead] at e
    subst e
    refine ⟨?_, ?_, fun _ => ⟨?_, ?_⟩, fun hs => absurd hs sortW_p⟩
    · exact cutp (a := [98, 47]) (b := digs 16 id 16) (c := [47] ++ ([112] ++ digs 10 n 3)) (by simp) rfl hl
    · exact cutp (a := [98, 47] ++ digs 16 id 16 ++ [47]) (b := [112]) (c := digs 10 n 3) (by simp) (by simp [hl]) rfl
    · rw [List.drop_append_of_le_length (by simp [hl]), List.drop_eq_nil_of_le (by simp [hl])]
      rfl
    · simp [hl, hk]
  · have e := h.eq
    rw [nmOf_sort hw, nmHead] at e
    subst e
    have h1 := sortW_len hw
    refine ⟨?_, ?_, fun hp => absurd (hp ▸ hw) sortW_p, fun _ => by simp [hl, h1]⟩
    · exact cutp (a := [98, 47]) (b := digs 16 id 16) (c := [47] ++ what) (by simp) rfl hl
    · exact cutp (a := [98, 47] ++ digs 16 id 16 ++ [47]) (b := what) (c := []) (by simp) (by simp [hl]) h1
theorem NamedAs.one {s : List UInt8} {id id' : Nat} {what what' : List UInt8} {n n' : Nat} (h : NamedAs s id what n) (h' : NamedAs s id' what' n') : id = id' ∧ what = what' ∧ n = n' := by
  obtain ⟨a1, a2, a3, a4⟩ := h.parts
  obtain ⟨b1, b2, b3, b4⟩ := h'.parts
  have e1 : id = id' := digs_inj 16 16 (by omega) (by omega) h.idlt h'.idlt (by rw [← a1, ← b1])
  have e2 : what = what' := by rw [← a2, ← b2]
  refine ⟨e1, e2, ?_⟩
  subst e2
  rcases h.kind with hp | ⟨hw, rfl⟩
  · have := (a3 hp).1
    rw [(b3 hp).1] at this
    exact (digs_inj 10 3 (by omega) (by omega) h'.nlt h.nlt this).symm
  · rcases h'.kind with hp | ⟨_, rfl⟩
    · exact absurd (hp ▸ hw) sortW_p
    · rfl
theorem NamedAs.of_name (id : Nat) (what : List UInt8) (page : Int) (hi : id < 18446744073709551616) (h : what = [112] ∨ sortW what) : NamedAs (nmOf id what page) id what (if what = [112] then pgN page else 0) := by
  rcases h with rfl | hw
  · rw [if_pos rfl]
    exact ⟨hi, pgN_lt _, .inl rfl, by rw [nmOf_p, nmOf_p, pgN_nat _ (pgN_lt _)]⟩
  · rw [if_neg (fun e : what = [112] => sortW_p (e ▸ hw))]
    exact ⟨hi, by omega, .inr ⟨hw, rfl⟩, by rw [nmOf_sort hw, nmOf_sort hw]⟩
/-- what a name is told to be -/
def ParseP (s : List UInt8) (id : Nat) (what : List UInt8) (n : Int) (is : Bool) : Prop :=
  (is = true ∧ ∃ k : Nat, n = (k : Int) ∧ NamedAs s id what k) ∨ (is = false ∧ id = 0 ∧ what = [] ∧ n = 0 ∧ ∀ i w k, ¬ NamedAs s i w k)
theorem ParseP.one {s : List UInt8} {id id' : Nat} {what what' : List UInt8} {n n' : Int} {is is' : Bool} (h : ParseP s id what n is) (h' : ParseP s id' what' n' is') : id = id' ∧ what = what' ∧ n = n' ∧ is = is' := by
  rcases h with ⟨rfl, k, rfl, h⟩ | ⟨rfl, rfl, rfl, rfl, h⟩
  · rcases h' with ⟨rfl, k', rfl, h'⟩ | ⟨_, _, _, _, h'⟩
    · obtain ⟨e1, e2, e3⟩ := h.one h'
      exact ⟨e1, e2, by rw [e3], rfl⟩
    · exact absurd h (h' _ _ _)
  · rcases h' with ⟨rfl, k', rfl, h'⟩ | ⟨rfl, rfl, rfl, rfl, _⟩
    · exact absurd h' (h _ _ _)
    · exact ⟨rfl, rfl, rfl, rfl⟩


theorem BSlist (s : List UInt8) : (Bstr s).toList = s := Bstr_toList s
theorem addStr' (l m : List UInt8) (k : List UInt8) (e : l ++ m = k) (h : k.length ≤ 140737488355328) (u : World) : (Op.stringOp .add (Bstr l) (Bstr m)).run Tryz.prog u = .ok (.string (Bstr k)) u := by
  subst e
  exact addStr l m (by simpa using h) u

theorem wrapU' (n : Nat) (h : n < 18446744073709551616) : IntKind.u64.wrap (n : Int) = (n : Int) := by rw [IntKind.wrap_u64]; omega
set_option maxHeartbeats 800000 in
theorem mname_m (id : Nat) (page : Int) (w : World) (hi : id < 18446744073709551616) (hL : Ld w) :
    Calls Tryz.prog 63 #[.int .u64 (id : Int), .string ⟨#[109]⟩, .int .i64 page] w fun e w' => e = .returned (.string (Bstr (nmHead id ++ [109]))) ∧ Below w.heap.size w w' := by
  have a1 : ∀ u, (Op.stringOp .add ⟨#[98, 47]⟩ (Bstr (digs 16 id 16))).run Tryz.prog u = .ok (.string (Bstr ([98, 47] ++ digs 16 id 16))) u := addStr' [98, 47] (digs 16 id 16) ([98, 47] ++ digs 16 id 16) rfl (by simp [digs_length])
  have a2 : ∀ u, (Op.stringOp .add (Bstr ([98, 47] ++ digs 16 id 16)) ⟨#[47]⟩).run Tryz.prog u = .ok (.string (Bstr (nmHead id))) u := addStr' ([98, 47] ++ digs 16 id 16) [47] (nmHead id) rfl (by rw [nmHead_length]; omega)
  have a3 : ∀ u, (Op.stringOp .add (Bstr (nmHead id)) ⟨#[109]⟩).run Tryz.prog u = .ok (.string (Bstr (nmHead id ++ [109]))) u := addStr' (nmHead id) [109] (nmHead id ++ [109]) rfl (by simp [nmHead_length])
  have hC := dig16_any id w hi hL
  generalize nmHead id ++ [109] = k3 at *
  generalize nmHead id = k2 at *
  generalize [98, 47] ++ digs 16 id 16 = k1 at *
  generalize digs 16 id 16 = k0 at *
  clear hi hL
  go_enter Tryz.func63, Tryz.ntmps63
  go_wp2_with fail
  refine hC.mono ?_
  rintro e w1 ⟨rfl, hb1⟩
  go_wp2_with fail
  go_ret
  exact ⟨rfl, hb1⟩
set_option maxHeartbeats 800000 in
theorem mname_i (id : Nat) (page : Int) (w : World) (hi : id < 18446744073709551616) (hL : Ld w) :
    Calls Tryz.prog 63 #[.int .u64 (id : Int), .string ⟨#[105]⟩, .int .i64 page] w fun e w' => e = .returned (.string (Bstr (nmHead id ++ [105]))) ∧ Below w.heap.size w w' := by
  have a1 : ∀ u, (Op.stringOp .add ⟨#[98, 47]⟩ (Bstr (digs 16 id 16))).run Tryz.prog u = .ok (.string (Bstr ([98, 47] ++ digs 16 id 16))) u := addStr' [98, 47] (digs 16 id 16) ([98, 47] ++ digs 16 id 16) rfl (by simp [digs_length])
  have a2 : ∀ u, (Op.stringOp .add (Bstr ([98, 47] ++ digs 16 id 16)) ⟨#[47]⟩).run Tryz.prog u = .ok (.string (Bstr (nmHead id))) u := addStr' ([98, 47] ++ digs 16 id 16) [47] (nmHead id) rfl (by rw [nmHead_length]; omega)
  have a3 : ∀ u, (Op.stringOp .add (Bstr (nmHead id)) ⟨#[105]⟩).run Tryz.prog u = .ok (.string (Bstr (nmHead id ++ [105]))) u := addStr' (nmHead id) [105] (nmHead id ++ [105]) rfl (by simp [nmHead_length])
  have hC := dig16_any id w hi hL
  generalize nmHead id ++ [105] = k3 at *
  generalize nmHead id = k2 at *
  generalize [98, 47] ++ digs 16 id 16 = k1 at *
  generalize digs 16 id 16 = k0 at *
  clear hi hL
  go_enter Tryz.func63, Tryz.ntmps63
  go_wp2_with fail
  refine hC.mono ?_
  rintro e w1 ⟨rfl, hb1⟩
  go_wp2_with fail
  go_ret
  exact ⟨rfl, hb1⟩
set_option maxHeartbeats 800000 in
theorem mname_f (id : Nat) (page : Int) (w : World) (hi : id < 18446744073709551616) (hL : Ld w) :
    Calls Tryz.prog 63 #[.int .u64 (id : Int), .string ⟨#[102]⟩, .int .i64 page] w fun e w' => e = .returned (.string (Bstr (nmHead id ++ [102]))) ∧ Below w.heap.size w w' := by
  have a1 : ∀ u, (Op.stringOp .add ⟨#[98, 47]⟩ (Bstr (digs 16 id 16))).run Tryz.prog u = .ok (.string (Bstr ([98, 47] ++ digs 16 id 16))) u := addStr' [98, 47] (digs 16 id 16) ([98, 47] ++ digs 16 id 16) rfl (by simp [digs_length])
  have a2 : ∀ u, (Op.stringOp .add (Bstr ([98, 47] ++ digs 16 id 16)) ⟨#[47]⟩).run Tryz.prog u = .ok (.string (Bstr (nmHead id))) u := addStr' ([98, 47] ++ digs 16 id 16) [47] (nmHead id) rfl (by rw [nmHead_length]; omega)
  have a3 : ∀ u, (Op.stringOp .add (Bstr (nmHead id)) ⟨#[102]⟩).run Tryz.prog u = .ok (.string (Bstr (nmHead id ++ [102]))) u := addStr' (nmHead id) [102] (nmHead id ++ [102]) rfl (by simp [nmHead_length])
  have hC := dig16_any id w hi hL
  generalize nmHead id ++ [102] = k3 at *
  generalize nmHead id = k2 at *
  generalize [98, 47] ++ digs 16 id 16 = k1 at *
  generalize digs 16 id 16 = k0 at *
  clear hi hL
  go_enter Tryz.func63, Tryz.ntmps63
  go_wp2_with fail
  refine hC.mono ?_
  rintro e w1 ⟨rfl, hb1⟩
  go_wp2_with fail
  go_ret
  exact ⟨rfl, hb1⟩
set_option maxHeartbeats 800000 in
theorem mname_x (id : Nat) (page : Int) (w : World) (hi : id < 18446744073709551616) (hL : Ld w) :
    Calls Tryz.prog 63 #[.int .u64 (id : Int), .string ⟨#[120]⟩, .int .i64 page] w fun e w' => e = .returned (.string (Bstr (nmHead id ++ [120]))) ∧ Below w.heap.size w w' := by
  have a1 : ∀ u, (Op.stringOp .add ⟨#[98, 47]⟩ (Bstr (digs 16 id 16))).run Tryz.prog u = .ok (.string (Bstr ([98, 47] ++ digs 16 id 16))) u := addStr' [98, 47] (digs 16 id 16) ([98, 47] ++ digs 16 id 16) rfl (by simp [digs_length])
  have a2 : ∀ u, (Op.stringOp .add (Bstr ([98, 47] ++ digs 16 id 16)) ⟨#[47]⟩).run Tryz.prog u = .ok (.string (Bstr (nmHead id))) u := addStr' ([98, 47] ++ digs 16 id 16) [47] (nmHead id) rfl (by rw [nmHead_length]; omega)
  have a3 : ∀ u, (Op.stringOp .add (Bstr (nmHead id)) ⟨#[120]⟩).run Tryz.prog u = .ok (.string (Bstr (nmHead id ++ [120]))) u := addStr' (nmHead id) [120] (nmHead id ++ [120]) rfl (by simp [nmHead_length])
  have hC := dig16_any id w hi hL
  generalize nmHead id ++ [120] = k3 at *
  generalize nmHead id = k2 at *
  generalize [98, 47] ++ digs 16 id 16 = k1 at *
  generalize digs 16 id 16 = k0 at *
  clear hi hL
  go_enter Tryz.func63, Tryz.ntmps63
  go_wp2_with fail
  refine hC.mono ?_
  rintro e w1 ⟨rfl, hb1⟩
  go_wp2_with fail
  go_ret
  exact ⟨rfl, hb1⟩

set_option maxHeartbeats 800000 in
theorem mname_p (id : Nat) (page : Int) (w : World) (hi : id < 18446744073709551616) (hL : Ld w) :
    Calls Tryz.prog 63 #[.int .u64 (id : Int), .string ⟨#[112]⟩, .int .i64 page] w fun e w' => e = .returned (.string (Bstr (nmHead id ++ [112] ++ digs 10 (pgN page) 3))) ∧ Below w.heap.size w w' := by
  have a1 : ∀ u, (Op.stringOp .add ⟨#[98, 47]⟩ (Bstr (digs 16 id 16))).run Tryz.prog u = .ok (.string (Bstr ([98, 47] ++ digs 16 id 16))) u := addStr' [98, 47] (digs 16 id 16) ([98, 47] ++ digs 16 id 16) rfl (by simp [digs_length])
  have a2 : ∀ u, (Op.stringOp .add (Bstr ([98, 47] ++ digs 16 id 16)) ⟨#[47]⟩).run Tryz.prog u = .ok (.string (Bstr (nmHead id))) u := addStr' ([98, 47] ++ digs 16 id 16) [47] (nmHead id) rfl (by rw [nmHead_length]; omega)
  have a3 : ∀ u, (Op.stringOp .add (Bstr (nmHead id)) ⟨#[112]⟩).run Tryz.prog u = .ok (.string (Bstr (nmHead id ++ [112]))) u := addStr' (nmHead id) [112] (nmHead id ++ [112]) rfl (by simp [nmHead_length])
  have a4 : ∀ u, (Op.stringOp .add (Bstr (nmHead id ++ [112])) (Bstr (digs 10 (pgN page) 3))).run Tryz.prog u = .ok (.string (Bstr (nmHead id ++ [112] ++ digs 10 (pgN page) 3))) u := addStr' (nmHead id ++ [112]) (digs 10 (pgN page) 3) _ rfl (by simp [nmHead_length, digs_length])
  obtain ⟨t, ht⟩ : ∃ t : Nat, max page 0 = (t : Int) := ⟨(max page 0).toNat, by omega⟩
  have hn : (t : Int) % 1000 = ((pgN page : Nat) : Int) := by unfold pgN; omega
  have hlt := pgN_lt page
  have hwr := wrapU' (pgN page) (by omega)
  have hC := dig16_any id w hi hL
  have hD := fun u hu => dig10_any (pgN page) u hlt hu
  have HL := Lib.hid hL
  generalize nmHead id ++ [112] ++ digs 10 (pgN page) 3 = k4 at *
  generalize nmHead id ++ [112] = k3 at *
  generalize nmHead id = k2 at *
  generalize [98, 47] ++ digs 16 id 16 = k1 at *
  generalize digs 16 id 16 = k0 at *
  generalize digs 10 (pgN page) 3 = kd at *
  generalize pgN page = n at *
  clear hi hL
  go_enter Tryz.func63, Tryz.ntmps63
  go_wp2_with fail
  refine hC.mono ?_
  rintro e w1 ⟨rfl, hb1⟩
  go_wp2_with fail
  refine (hD _ (HL.out.below hb1)).mono ?_
  rintro e w2 ⟨rfl, hb2⟩
  go_wp2_with fail
  go_ret
  exact ⟨rfl, hb1.trans (hb2.mono hb1.size)⟩

theorem mname_none (id : Nat) (what : List UInt8) (page : Int) (w : World) (hi : id < 18446744073709551616) (hL : Ld w) (h1 : ¬ sortW what) (h2 : what ≠ [112]) :
    Calls Tryz.prog 63 #[.int .u64 (id : Int), .string (Bstr what), .int .i64 page] w fun e w' => e = .returned (.string ⟨#[]⟩) ∧ Below w.heap.size w w' := by
  have a1 : ∀ u, (Op.stringOp .add ⟨#[98, 47]⟩ (Bstr (digs 16 id 16))).run Tryz.prog u = .ok (.string (Bstr ([98, 47] ++ digs 16 id 16))) u := addStr' [98, 47] (digs 16 id 16) ([98, 47] ++ digs 16 id 16) rfl (by simp [digs_length])
  have a2 : ∀ u, (Op.stringOp .add (Bstr ([98, 47] ++ digs 16 id 16)) ⟨#[47]⟩).run Tryz.prog u = .ok (.string (Bstr (nmHead id))) u := addStr' ([98, 47] ++ digs 16 id 16) [47] (nmHead id) rfl (by rw [nmHead_length]; omega)
  have n1 : ((Bstr what).toList == [109]) = false := by rw [BSlist, beq_eq_false_iff_ne]; exact fun e => h1 (.inl e)
  have n2 : ((Bstr what).toList == [105]) = false := by rw [BSlist, beq_eq_false_iff_ne]; exact fun e => h1 (.inr (.inl e))
  have n3 : ((Bstr what).toList == [102]) = false := by rw [BSlist, beq_eq_false_iff_ne]; exact fun e => h1 (.inr (.inr (.inl e)))
  have n4 : ((Bstr what).toList == [120]) = false := by rw [BSlist, beq_eq_false_iff_ne]; exact fun e => h1 (.inr (.inr (.inr e)))
  have n5 : ((Bstr what).toList == [112]) = false := by rw [BSlist, beq_eq_false_iff_ne]; exact h2
  have hC := dig16_any id w hi hL
  generalize nmHead id = k2 at *
  generalize [98, 47] ++ digs 16 id 16 = k1 at *
  generalize digs 16 id 16 = k0 at *
  clear hi hL h1 h2
  go_enter Tryz.func63, Tryz.ntmps63
  go_wp2_with fail
  refine hC.mono ?_
  rintro e w1 ⟨rfl, hb1⟩
  go_wp2_with fail
  go_ret
  exact ⟨rfl, hb1⟩

theorem mname_any (id : Nat) (what : List UInt8) (page : Int) (w : World) (hi : id < 18446744073709551616) (hL : Ld w) :
    Calls Tryz.prog 63 #[.int .u64 (id : Int), .string (Bstr what), .int .i64 page] w fun e w' => e = .returned (.string (Bstr (nmOf id what page))) ∧ Below w.heap.size w w' := by
  by_cases hs : sortW what
  · rw [nmOf_sort hs]
    rcases hs with rfl | rfl | rfl | rfl
    · exact mname_m id page w hi hL
    · exact mname_i id page w hi hL
    · exact mname_f id page w hi hL
    · exact mname_x id page w hi hL
  · by_cases hp : what = [112]
    · subst hp
      rw [nmOf_p]
      exact mname_p id page w hi hL
    · rw [nmOf_none hs hp]
      exact mname_none id what page w hi hL hs hp

def dg16 : ByteArray := ⟨#[48, 49, 50, 51, 52, 53, 54, 55, 56, 57, 97, 98, 99, 100, 101, 102]⟩
theorem dg16_cut (d : Nat) (h : d < 16) : dg16.extract d (d + 1) = Bstr [dchar d] := by
  have : ∀ k : Fin 16, dg16.extract k.val (k.val + 1) = Bstr [dchar k.val] := by decide
  exact this ⟨d, h⟩
theorem i64_nat (k : Nat) (h : k < 9223372036854775808) : IntKind.i64.wrap (k : Int) = (k : Int) := IntWalk.i64_in _ (by omega)
/-- one step of the document's digits -/
theorem Digs_step (b k n q d : Nat) (w : World) (hb : b = 16 ∨ b = 10) (hk : k + 1 ≤ 16) (hq : (n : Int) / (b : Int) = (q : Int)) (hd : (n : Int) % (b : Int) = (d : Int)) (hd16 : d < 16) (hn : n < 18446744073709551616)
    (hC : ∀ u, Calls Tryz.prog 49 #[.int .u64 (q : Int), .int .u64 (b : Int), .int .i64 (k : Int)] u fun e w' => e = .returned (.string (Bstr (digs b q k))) ∧ Below u.heap.size u w') :
    Calls Tryz.prog 49 #[.int .u64 (n : Int), .int .u64 (b : Int), .int .i64 ((k + 1 : Nat) : Int)] w fun e w' => e = .returned (.string (Bstr (digs b q k ++ [dchar d]))) ∧ Below w.heap.size w w' := by
  have HC := Lib.hid hC
  have hz : (((k + 1 : Nat) : Int) == 0) = false := beq_eq_false_iff_ne.2 (by omega)
  have hdw : IntKind.u64.wrap ((d : Int) + 1) = (d : Int) + 1 := by rw [IntKind.wrap_u64]; omega
  have hkw : IntKind.i64.wrap (k : Int) = (k : Int) := i64_nat k (by omega)
  have hd1 : (d : Int) + 1 ≤ 16 := by omega
  have hd2 : (d : Int) ≤ (d : Int) + 1 := by omega
  have hd3 : ((d : Int) + 1).toNat = d + 1 := by omega
  have hex : ({ data := #[48, 49, 50, 51, 52, 53, 54, 55, 56, 57, 97, 98, 99, 100, 101, 102] } : ByteArray).extract d (d + 1) = Bstr [dchar d] := dg16_cut d hd16
  have hadd := addStr' (digs b q k) [dchar d] _ rfl (by simp [digs_length]; omega)
  generalize digs b q k ++ [dchar d] = r at *
  generalize [dchar d] = c at *
  have hbz : ((b : Int) == 0) = false := beq_eq_false_iff_ne.2 (by rcases hb with rfl | rfl <;> omega)
  have hb0 : ¬ b = 0 := by rcases hb with rfl | rfl <;> omega
  have hqw := wrapU' q (by
    have : (n : Int) / b ≤ n := Int.ediv_le_self _ (by omega)
    omega)
  clear hC hb
  go_enter Tryz.func49, Tryz.ntmps49
  go_wp2_with fail
  refine wp_region_mix [(0, false), (1, false), (2, false), (3, false), (4, false), (5, false), (7, false), (8, false), (9, false), (10, false), (11, false), (6, true), (12, true), (13, true)] (fun u => Below w.heap.size w u) (by kernel_rfl) (by kernel_rfl) (by kernel_rfl) rfl (Below.refl _ _).drew ?_
  repeat
    (refine mix_read (o := ⟨_, _, _, _, _, _⟩) (v := ?_) rfl (by rfl) (fun w' hS => ?_) ?_
     rotate_left
     go_simp
     with_reducible rfl
     try simp only [Act.put, List.setIfInBounds_toArray, List.set_cons_zero, List.set_cons_succ])
  refine mix_step (o := ⟨_, _, _, _, _, _⟩) rfl (fun K hK => ?_)
  go_simp
  refine (HC.out _).mono ?_
  rintro e w2 ⟨rfl, hb2⟩
  have hb2' : Below w.heap.size w w2 := (Below.refl _ w).drew.trans hb2
  refine hK.out _ _ hb2' ?_
  clear hK K
  try simp only [Act.put, List.setIfInBounds_toArray, List.set_cons_zero, List.set_cons_succ]
  repeat
    (refine mix_step (o := ⟨_, _, _, _, _, _⟩) rfl (fun K hK => ?_)
     go_simp
     refine hK.out _ _ hb2' ?_
     clear hK K
     try simp only [Act.put, List.setIfInBounds_toArray, List.set_cons_zero, List.set_cons_succ])
  refine mix_done ?_
  go_wp2_with fail
  go_ret
  exact ⟨rfl, hb2'⟩
/-- THE DOCUMENT's digits -/
theorem Digs_any (b : Nat) (hb : b = 16 ∨ b = 10) (k : Nat) : ∀ (n : Nat) (w : World), k ≤ 16 → n < 18446744073709551616 →
    Calls Tryz.prog 49 #[.int .u64 (n : Int), .int .u64 (b : Int), .int .i64 (k : Int)] w fun e w' => e = .returned (.string (Bstr (digs b n k))) ∧ Below w.heap.size w w' := by
  induction k with
  | zero =>
    intro n w _ _
    go_enter Tryz.func49, Tryz.ntmps49
    go_wp2_with fail
    go_ret
    exact ⟨rfl, Below.refl _ _⟩
  | succ k ih =>
    intro n w hk hn
    have hd16 : n % b < 16 := by rcases hb with rfl | rfl <;> omega
    have hq : n / b ≤ n := Nat.div_le_self _ _
    exact Digs_step b k n (n / b) (n % b) w hb hk (by simp) (by simp) hd16 hn (fun u => ih (n / b) u (by omega) (by omega))

end Go.Proofs.YtnghpcfdgjkokaaGreatDoor

namespace Go.Proofs.YtnghpcfdgjkokaaGreatDoor
open Go.RowKit
set_option maxRecDepth 100000

set_option maxHeartbeats 800000 in
theorem Name_m (id : Nat) (page : Int) (w : World) (hi : id < 18446744073709551616) :
    Calls Tryz.prog 22 #[.int .u64 (id : Int), .string ⟨#[109]⟩, .int .i64 page] w fun e w' => e = .returned (.string (Bstr (nmHead id ++ [109]))) ∧ Below w.heap.size w w' := by
  have a1 : ∀ u, (Op.stringOp .add ⟨#[98, 47]⟩ (Bstr (digs 16 id 16))).run Tryz.prog u = .ok (.string (Bstr ([98, 47] ++ digs 16 id 16))) u := addStr' [98, 47] (digs 16 id 16) ([98, 47] ++ digs 16 id 16) rfl (by simp [digs_length])
  have a2 : ∀ u, (Op.stringOp .add (Bstr ([98, 47] ++ digs 16 id 16)) ⟨#[47]⟩).run Tryz.prog u = .ok (.string (Bstr (nmHead id))) u := addStr' ([98, 47] ++ digs 16 id 16) [47] (nmHead id) rfl (by rw [nmHead_length]; omega)
  have a3 : ∀ u, (Op.stringOp .add (Bstr (nmHead id)) ⟨#[109]⟩).run Tryz.prog u = .ok (.string (Bstr (nmHead id ++ [109]))) u := addStr' (nmHead id) [109] (nmHead id ++ [109]) rfl (by simp [nmHead_length])
  have hC := Digs_any 16 (.inl rfl) 16 id w (by omega) hi
  generalize nmHead id ++ [109] = k3 at *
  generalize nmHead id = k2 at *
  generalize [98, 47] ++ digs 16 id 16 = k1 at *
  generalize digs 16 id 16 = k0 at *
  clear hi
  go_enter Tryz.func22, Tryz.ntmps22
  go_wp2_with fail
  refine hC.mono ?_
  rintro e w1 ⟨rfl, hb1⟩
  go_wp2_with fail
  go_ret
  exact ⟨rfl, hb1⟩
set_option maxHeartbeats 800000 in
theorem Name_i (id : Nat) (page : Int) (w : World) (hi : id < 18446744073709551616) :
    Calls Tryz.prog 22 #[.int .u64 (id : Int), .string ⟨#[105]⟩, .int .i64 page] w fun e w' => e = .returned (.string (Bstr (nmHead id ++ [105]))) ∧ Below w.heap.size w w' := by
  have a1 : ∀ u, (Op.stringOp .add ⟨#[98, 47]⟩ (Bstr (digs 16 id 16))).run Tryz.prog u = .ok (.string (Bstr ([98, 47] ++ digs 16 id 16))) u := addStr' [98, 47] (digs 16 id 16) ([98, 47] ++ digs 16 id 16) rfl (by simp [digs_length])
  have a2 : ∀ u, (Op.stringOp .add (Bstr ([98, 47] ++ digs 16 id 16)) ⟨#[47]⟩).run Tryz.prog u = .ok (.string (Bstr (nmHead id))) u := addStr' ([98, 47] ++ digs 16 id 16) [47] (nmHead id) rfl (by rw [nmHead_length]; omega)
  have a3 : ∀ u, (Op.stringOp .add (Bstr (nmHead id)) ⟨#[105]⟩).run Tryz.prog u = .ok (.string (Bstr (nmHead id ++ [105]))) u := addStr' (nmHead id) [105] (nmHead id ++ [105]) rfl (by simp [nmHead_length])
  have hC := Digs_any 16 (.inl rfl) 16 id w (by omega) hi
  generalize nmHead id ++ [105] = k3 at *
  generalize nmHead id = k2 at *
  generalize [98, 47] ++ digs 16 id 16 = k1 at *
  generalize digs 16 id 16 = k0 at *
  clear hi
  go_enter Tryz.func22, Tryz.ntmps22
  go_wp2_with fail
  refine hC.mono ?_
  rintro e w1 ⟨rfl, hb1⟩
  go_wp2_with fail
  go_ret
  exact ⟨rfl, hb1⟩
set_option maxHeartbeats 800000 in
theorem Name_f (id : Nat) (page : Int) (w : World) (hi : id < 18446744073709551616) :
    Calls Tryz.prog 22 #[.int .u64 (id : Int), .string ⟨#[102]⟩, .int .i64 page] w fun e w' => e = .returned (.string (Bstr (nmHead id ++ [102]))) ∧ Below w.heap.size w w' := by
  have a1 : ∀ u, (Op.stringOp .add ⟨#[98, 47]⟩ (Bstr (digs 16 id 16))).run Tryz.prog u = .ok (.string (Bstr ([98, 47] ++ digs 16 id 16))) u := addStr' [98, 47] (digs 16 id 16) ([98, 47] ++ digs 16 id 16) rfl (by simp [digs_length])
  have a2 : ∀ u, (Op.stringOp .add (Bstr ([98, 47] ++ digs 16 id 16)) ⟨#[47]⟩).run Tryz.prog u = .ok (.string (Bstr (nmHead id))) u := addStr' ([98, 47] ++ digs 16 id 16) [47] (nmHead id) rfl (by rw [nmHead_length]; omega)
  have a3 : ∀ u, (Op.stringOp .add (Bstr (nmHead id)) ⟨#[102]⟩).run Tryz.prog u = .ok (.string (Bstr (nmHead id ++ [102]))) u := addStr' (nmHead id) [102] (nmHead id ++ [102]) rfl (by simp [nmHead_length])
  have hC := Digs_any 16 (.inl rfl) 16 id w (by omega) hi
  generalize nmHead id ++ [102] = k3 at *
  generalize nmHead id = k2 at *
  generalize [98, 47] ++ digs 16 id 16 = k1 at *
  generalize digs 16 id 16 = k0 at *
  clear hi
  go_enter Tryz.func22, Tryz.ntmps22
  go_wp2_with fail
  refine hC.mono ?_
  rintro e w1 ⟨rfl, hb1⟩
  go_wp2_with fail
  go_ret
  exact ⟨rfl, hb1⟩
set_option maxHeartbeats 800000 in
theorem Name_x (id : Nat) (page : Int) (w : World) (hi : id < 18446744073709551616) :
    Calls Tryz.prog 22 #[.int .u64 (id : Int), .string ⟨#[120]⟩, .int .i64 page] w fun e w' => e = .returned (.string (Bstr (nmHead id ++ [120]))) ∧ Below w.heap.size w w' := by
  have a1 : ∀ u, (Op.stringOp .add ⟨#[98, 47]⟩ (Bstr (digs 16 id 16))).run Tryz.prog u = .ok (.string (Bstr ([98, 47] ++ digs 16 id 16))) u := addStr' [98, 47] (digs 16 id 16) ([98, 47] ++ digs 16 id 16) rfl (by simp [digs_length])
  have a2 : ∀ u, (Op.stringOp .add (Bstr ([98, 47] ++ digs 16 id 16)) ⟨#[47]⟩).run Tryz.prog u = .ok (.string (Bstr (nmHead id))) u := addStr' ([98, 47] ++ digs 16 id 16) [47] (nmHead id) rfl (by rw [nmHead_length]; omega)
  have a3 : ∀ u, (Op.stringOp .add (Bstr (nmHead id)) ⟨#[120]⟩).run Tryz.prog u = .ok (.string (Bstr (nmHead id ++ [120]))) u := addStr' (nmHead id) [120] (nmHead id ++ [120]) rfl (by simp [nmHead_length])
  have hC := Digs_any 16 (.inl rfl) 16 id w (by omega) hi
  generalize nmHead id ++ [120] = k3 at *
  generalize nmHead id = k2 at *
  generalize [98, 47] ++ digs 16 id 16 = k1 at *
  generalize digs 16 id 16 = k0 at *
  clear hi
  go_enter Tryz.func22, Tryz.ntmps22
  go_wp2_with fail
  refine hC.mono ?_
  rintro e w1 ⟨rfl, hb1⟩
  go_wp2_with fail
  go_ret
  exact ⟨rfl, hb1⟩

set_option maxHeartbeats 800000 in
theorem Name_p (id : Nat) (page : Int) (w : World) (hi : id < 18446744073709551616) (h0 : 0 ≤ page) (h1 : page ≤ 9223372036854775807) :
    Calls Tryz.prog 22 #[.int .u64 (id : Int), .string ⟨#[112]⟩, .int .i64 page] w fun e w' => e = .returned (.string (Bstr (nmHead id ++ [112] ++ digs 10 (pgN page) 3))) ∧ Below w.heap.size w w' := by
  have a1 : ∀ u, (Op.stringOp .add ⟨#[98, 47]⟩ (Bstr (digs 16 id 16))).run Tryz.prog u = .ok (.string (Bstr ([98, 47] ++ digs 16 id 16))) u := addStr' [98, 47] (digs 16 id 16) ([98, 47] ++ digs 16 id 16) rfl (by simp [digs_length])
  have a2 : ∀ u, (Op.stringOp .add (Bstr ([98, 47] ++ digs 16 id 16)) ⟨#[47]⟩).run Tryz.prog u = .ok (.string (Bstr (nmHead id))) u := addStr' ([98, 47] ++ digs 16 id 16) [47] (nmHead id) rfl (by rw [nmHead_length]; omega)
  have a3 : ∀ u, (Op.stringOp .add (Bstr (nmHead id)) ⟨#[112]⟩).run Tryz.prog u = .ok (.string (Bstr (nmHead id ++ [112]))) u := addStr' (nmHead id) [112] (nmHead id ++ [112]) rfl (by simp [nmHead_length])
  have a4 : ∀ u, (Op.stringOp .add (Bstr (nmHead id ++ [112])) (Bstr (digs 10 (pgN page) 3))).run Tryz.prog u = .ok (.string (Bstr (nmHead id ++ [112] ++ digs 10 (pgN page) 3))) u := addStr' (nmHead id ++ [112]) (digs 10 (pgN page) 3) _ rfl (by simp [nmHead_length, digs_length])
  have hn : page % 1000 = ((pgN page : Nat) : Int) := by unfold pgN; omega
  have hlt := pgN_lt page
  have hwr := wrapU' (pgN page) (by omega)
  have hC := Digs_any 16 (.inl rfl) 16 id w (by omega) hi
  have hD := fun u => Digs_any 10 (.inr rfl) 3 (pgN page) u (by omega) (by omega)
  obtain ⟨t, rfl⟩ := nat_of (n := page) h0
  generalize nmHead id ++ [112] ++ digs 10 (pgN (t : Int)) 3 = k4 at *
  generalize nmHead id ++ [112] = k3 at *
  generalize nmHead id = k2 at *
  generalize [98, 47] ++ digs 16 id 16 = k1 at *
  generalize digs 16 id 16 = k0 at *
  generalize digs 10 (pgN (t : Int)) 3 = kd at *
  generalize pgN (t : Int) = n at *
  clear hi h0
  go_enter Tryz.func22, Tryz.ntmps22
  go_wp2_with fail
  refine hC.mono ?_
  rintro e w1 ⟨rfl, hb1⟩
  go_wp2_with fail
  refine (hD _).mono ?_
  rintro e w2 ⟨rfl, hb2⟩
  go_wp2_with fail
  go_ret
  exact ⟨rfl, hb1.trans (hb2.mono hb1.size)⟩

set_option maxHeartbeats 800000 in
theorem Name_neg (id : Nat) (page : Int) (w : World) (hi : id < 18446744073709551616) (h0 : page < 0) :
    Calls Tryz.prog 22 #[.int .u64 (id : Int), .string ⟨#[112]⟩, .int .i64 page] w fun e w' => e = .returned (.string (Bstr (nmHead id ++ [112] ++ digs 10 (pgN page) 3))) ∧ Below w.heap.size w w' := by
  have hp : pgN page = 0 := by unfold pgN; omega
  rw [hp]
  have a1 : ∀ u, (Op.stringOp .add ⟨#[98, 47]⟩ (Bstr (digs 16 id 16))).run Tryz.prog u = .ok (.string (Bstr ([98, 47] ++ digs 16 id 16))) u := addStr' [98, 47] (digs 16 id 16) ([98, 47] ++ digs 16 id 16) rfl (by simp [digs_length])
  have a2 : ∀ u, (Op.stringOp .add (Bstr ([98, 47] ++ digs 16 id 16)) ⟨#[47]⟩).run Tryz.prog u = .ok (.string (Bstr (nmHead id))) u := addStr' ([98, 47] ++ digs 16 id 16) [47] (nmHead id) rfl (by rw [nmHead_length]; omega)
  have a3 : ∀ u, (Op.stringOp .add (Bstr (nmHead id)) ⟨#[112]⟩).run Tryz.prog u = .ok (.string (Bstr (nmHead id ++ [112]))) u := addStr' (nmHead id) [112] (nmHead id ++ [112]) rfl (by simp [nmHead_length])
  have a4 : ∀ u, (Op.stringOp .add (Bstr (nmHead id ++ [112])) (Bstr (digs 10 0 3))).run Tryz.prog u = .ok (.string (Bstr (nmHead id ++ [112] ++ digs 10 0 3))) u := addStr' (nmHead id ++ [112]) (digs 10 0 3) _ rfl (by simp [nmHead_length, digs_length])
  have hC := Digs_any 16 (.inl rfl) 16 id w (by omega) hi
  have hD := fun u => Digs_any 10 (.inr rfl) 3 0 u (by omega) (by omega)
  generalize nmHead id ++ [112] ++ digs 10 0 3 = k4 at *
  generalize nmHead id ++ [112] = k3 at *
  generalize nmHead id = k2 at *
  generalize [98, 47] ++ digs 16 id 16 = k1 at *
  generalize digs 16 id 16 = k0 at *
  generalize digs 10 0 3 = kd at *
  clear hi hp
  go_enter Tryz.func22, Tryz.ntmps22
  go_wp2_with fail
  refine hC.mono ?_
  rintro e w1 ⟨rfl, hb1⟩
  go_wp2_with fail
  refine (hD _).mono ?_
  rintro e w2 ⟨rfl, hb2⟩
  go_wp2_with fail
  go_ret
  exact ⟨rfl, hb1.trans (hb2.mono hb1.size)⟩

theorem Name_none (id : Nat) (what : List UInt8) (page : Int) (w : World) (hi : id < 18446744073709551616) (h1 : ¬ sortW what) (h2 : what ≠ [112]) :
    Calls Tryz.prog 22 #[.int .u64 (id : Int), .string (Bstr what), .int .i64 page] w fun e w' => e = .returned (.string ⟨#[]⟩) ∧ Below w.heap.size w w' := by
  have a1 : ∀ u, (Op.stringOp .add ⟨#[98, 47]⟩ (Bstr (digs 16 id 16))).run Tryz.prog u = .ok (.string (Bstr ([98, 47] ++ digs 16 id 16))) u := addStr' [98, 47] (digs 16 id 16) ([98, 47] ++ digs 16 id 16) rfl (by simp [digs_length])
  have a2 : ∀ u, (Op.stringOp .add (Bstr ([98, 47] ++ digs 16 id 16)) ⟨#[47]⟩).run Tryz.prog u = .ok (.string (Bstr (nmHead id))) u := addStr' ([98, 47] ++ digs 16 id 16) [47] (nmHead id) rfl (by rw [nmHead_length]; omega)
  have n1 : ((Bstr what).toList == [109]) = false := by rw [BSlist, beq_eq_false_iff_ne]; exact fun e => h1 (.inl e)
  have n2 : ((Bstr what).toList == [105]) = false := by rw [BSlist, beq_eq_false_iff_ne]; exact fun e => h1 (.inr (.inl e))
  have n3 : ((Bstr what).toList == [102]) = false := by rw [BSlist, beq_eq_false_iff_ne]; exact fun e => h1 (.inr (.inr (.inl e)))
  have n4 : ((Bstr what).toList == [120]) = false := by rw [BSlist, beq_eq_false_iff_ne]; exact fun e => h1 (.inr (.inr (.inr e)))
  have n5 : ((Bstr what).toList == [112]) = false := by rw [BSlist, beq_eq_false_iff_ne]; exact h2
  have hC := Digs_any 16 (.inl rfl) 16 id w (by omega) hi
  generalize nmHead id = k2 at *
  generalize [98, 47] ++ digs 16 id 16 = k1 at *
  generalize digs 16 id 16 = k0 at *
  clear hi h1 h2
  go_enter Tryz.func22, Tryz.ntmps22
  go_wp2_with fail
  refine hC.mono ?_
  rintro e w1 ⟨rfl, hb1⟩
  go_wp2_with fail
  go_ret
  exact ⟨rfl, hb1⟩

theorem Name_any (id : Nat) (what : List UInt8) (page : Int) (w : World) (hi : id < 18446744073709551616) (hp1 : page ≤ 9223372036854775807) :
    Calls Tryz.prog 22 #[.int .u64 (id : Int), .string (Bstr what), .int .i64 page] w fun e w' => e = .returned (.string (Bstr (nmOf id what page))) ∧ Below w.heap.size w w' := by
  by_cases hs : sortW what
  · rw [nmOf_sort hs]
    rcases hs with rfl | rfl | rfl | rfl
    · exact Name_m id page w hi
    · exact Name_i id page w hi
    · exact Name_f id page w hi
    · exact Name_x id page w hi
  · by_cases hp : what = [112]
    · subst hp
      rw [nmOf_p]
      by_cases h0 : 0 ≤ page
      · exact Name_p id page w hi h0 hp1
      · exact Name_neg id page w hi (by omega)
    · rw [nmOf_none hs hp]
      exact Name_none id what page w hi hs hp

end Go.Proofs.YtnghpcfdgjkokaaGreatDoor

namespace Go.Proofs.YtnghpcfdgjkokaaGreatDoor
open Go.RowKit
set_option maxRecDepth 100000

theorem Bstr_cut (s : List UInt8) (a b : Nat) : (Bstr s).extract a b = Bstr ((s.drop a).take (b - a)) := by
  apply ByteArray.ext
  apply Array.ext'
  simp [Bstr]
theorem results_tmp4 {fn : Func} {t u v x : Tmp} (h : fn.results = #[.tmp t, .tmp u, .tmp v, .tmp x]) (tmps : Array Value) (P : Program) (w : World) :
    (results fn tmps).run P w = .ok (.tuple #[tmps.getD t undef, tmps.getD u undef, tmps.getD v undef, tmps.getD x undef]) w := by
  simp [results, h]
theorem strNe (a b : List UInt8) (h : a ≠ b) : (!(Bstr a).toList == (Bstr b).toList) = true := by
  rw [BSlist, BSlist, Bool.not_eq_true', beq_eq_false_iff_ne]
  exact h
theorem strEq (a b : List UInt8) (h : a = b) : (!(Bstr a).toList == (Bstr b).toList) = false := by
  rw [h]
  simp

/-- the page's number in a name of 23 bytes -/
def prsPg (s : List UInt8) : Nat := 100 * ((s.getD 20 0).toNat % 16) + 10 * ((s.getD 21 0).toNat % 16) + (s.getD 22 0).toNat % 16

/-- WHAT A NAME IS, told by its parts -/
theorem head_parts {s tl : List UInt8} {id : Nat} (h : s = nmHead id ++ tl) : (s.drop 2).take 16 = digs 16 id 16 ∧ s.drop 19 = tl := by
  subst h
  have hl := digs_length 16 id 16
  refine ⟨cutp (a := [98, 47]) (b := digs 16 id 16) (c := [47] ++ tl) (by simp [nmHead]) rfl hl, ?_⟩
  rw [List.drop_append_of_le_length (by rw [nmHead_length]; omega), List.drop_eq_nil_of_le (by rw [nmHead_length]; omega)]
  rfl
theorem ParseP_none {s : List UInt8} (h : ∀ i w k, ¬ NamedAs s i w k) : ParseP s 0 [] 0 false := .inr ⟨rfl, rfl, rfl, rfl, h⟩

theorem parse_20 (s : List UInt8) (h : s.length = 20) :
    if (s.drop 19).take 1 = [112] ∨ nmOf (valD 16 ((s.drop 2).take 16)) ((s.drop 19).take 1) 0 ≠ s then ParseP s 0 [] 0 false else ParseP s (valD 16 ((s.drop 2).take 16)) ((s.drop 19).take 1) 0 true := by
  have hid : valD 16 ((s.drop 2).take 16) < 18446744073709551616 := Nat.lt_of_lt_of_le (valD_lt _) (Nat.le_trans (Nat.pow_le_pow_right (by omega) (by rw [List.length_take]; omega : ((s.drop 2).take 16).length ≤ 16)) (by decide))
  split
  · rename_i hc
    refine ParseP_none fun i w k hN => ?_
    obtain ⟨h1, h2, h3, h4⟩ := hN.parts
    rcases hN.kind with rfl | ⟨hw, rfl⟩
    · have := (h3 rfl).2
      omega
    · rcases hc with hc | hc
      · rw [h2] at hc
        exact sortW_p (hc ▸ hw)
      · refine hc ?_
        rw [h1, h2, valD_digs 16 (by omega) (by omega), Nat.mod_eq_of_lt (by have := hN.idlt; omega : i < 16 ^ 16)]
        exact hN.eq.symm
  · rename_i hc
    rw [not_or] at hc
    obtain ⟨hp, hn⟩ := hc
    have hn' := Classical.not_not.1 hn
    refine .inl ⟨rfl, 0, rfl, hid, by omega, .inr ⟨?_, rfl⟩, hn'.symm⟩
    by_cases hw : sortW ((s.drop 19).take 1)
    · exact hw
    · rw [nmOf_none hw hp] at hn'
      rw [← hn'] at h
      cases h

theorem parse_23 (s : List UInt8) (h : s.length = 23) :
    if nmOf (valD 16 ((s.drop 2).take 16)) ((s.drop 19).take 1) (prsPg s) ≠ s then ParseP s 0 [] 0 false else ParseP s (valD 16 ((s.drop 2).take 16)) ((s.drop 19).take 1) (prsPg s) true := by
  have hid : valD 16 ((s.drop 2).take 16) < 18446744073709551616 := Nat.lt_of_lt_of_le (valD_lt _) (Nat.le_trans (Nat.pow_le_pow_right (by omega) (by rw [List.length_take]; omega : ((s.drop 2).take 16).length ≤ 16)) (by decide))
  -- the last three, if they are digits
  have key : ∀ n : Nat, n < 1000 → s.drop 20 = digs 10 n 3 → prsPg s = n := fun n hn hd => by
    have h0 : s[20]? = (digs 10 n 3)[0]? := by rw [← hd, List.getElem?_drop]
    have h1 : s[21]? = (digs 10 n 3)[1]? := by rw [← hd, List.getElem?_drop]
    have h2 : s[22]? = (digs 10 n 3)[2]? := by rw [← hd, List.getElem?_drop]
    simp only [digs, List.nil_append, List.cons_append] at h0 h1 h2
    have e : ∀ d, d < 10 → (dchar d).toNat % 16 = d := fun d hd => by
      rw [dchar_toNat d (by omega), if_pos hd]
      omega
    unfold prsPg
    rw [List.getD_eq_getElem?_getD, List.getD_eq_getElem?_getD, List.getD_eq_getElem?_getD, h0, h1, h2]
    simp only [List.getElem?_cons_zero, List.getElem?_cons_succ, Option.getD_some]
    rw [e _ (Nat.mod_lt _ (by omega)), e _ (Nat.mod_lt _ (by omega)), e _ (Nat.mod_lt _ (by omega))]
    omega
  split
  · rename_i hc
    refine ParseP_none fun i w k hN => ?_
    obtain ⟨h1, h2, h3, h4⟩ := hN.parts
    rcases hN.kind with rfl | ⟨hw, rfl⟩
    · refine hc ?_
      rw [h1, h2, valD_digs 16 (by omega) (by omega), Nat.mod_eq_of_lt (by have := hN.idlt; omega : i < 16 ^ 16), key k hN.nlt (h3 rfl).1]
      exact hN.eq.symm
    · have := h4 hw
      omega
  · rename_i hn
    have hn' := Classical.not_not.1 hn
    have hp : (s.drop 19).take 1 = [112] := by
      by_cases hp : (s.drop 19).take 1 = [112]
      · exact hp
      · exfalso
        have hl := congrArg List.length hn'
        by_cases hw : sortW ((s.drop 19).take 1)
        · rw [nmOf_sort hw, List.length_append, nmHead_length, sortW_len hw] at hl
          omega
        · rw [nmOf_none hw hp] at hl
          simp at hl
          omega
    have hlt : prsPg s < 1000 := by
      have hd := hn'
      rw [hp, nmOf_p] at hd
      have h20 : s.drop 20 = digs 10 (pgN (prsPg s)) 3 := by
        have hl : (nmHead (valD 16 ((s.drop 2).take 16)) ++ [112]).length = 20 := by rw [List.length_append, nmHead_length]; rfl
        rw [← hd, List.drop_append_of_le_length (by rw [hl]; omega), List.drop_eq_nil_of_le (by rw [hl]; omega)]
        rw [hd]
        rfl
      have := key _ (pgN_lt _) h20
      rw [this]
      exact pgN_lt _
    exact .inl ⟨rfl, prsPg s, rfl, hid, hlt, .inl hp, hn'.symm⟩

end Go.Proofs.YtnghpcfdgjkokaaGreatDoor

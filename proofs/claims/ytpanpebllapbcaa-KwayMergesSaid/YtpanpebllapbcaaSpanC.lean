/-
  LISTS OF SPANS, as slices; CONTRACTS of the document's Few, of span.one and span.Put.
-/
import Derived.Test.YtpanpebllapbcaaSpanB
import Derived.Test.YtpanpebllapbcaaLs
namespace Go.Proofs.Ytpanpebllapbcaa
open Go.RowKit

/-- the value v is a slice of these spans -/
def Ss (w : World) (v : Value) (l : List Sn) : Prop := ∃ xs, Lv 5 w v xs ∧ Two (SpC w) l xs

section
variable {w w' : World} {v : Value} {l : List Sn}
theorem Ss.nil (w : World) : Ss w (.slice none 0 0) [] := ⟨[], Lv.nil 5 w, Two.nil⟩
theorem Ss.below (h : Ss w v l) (hb : Below w.heap.size w w') : Ss w' v l := by
  obtain ⟨xs, h1, h2⟩ := h
  exact ⟨xs, h1.below hb, h2.mono fun _ _ h => h.below hb⟩
theorem Ss.alloc (h : Ss w v l) (o : Obj) : Ss (w.alloc o) v l := h.below ((Below.refl _ _).alloc (Nat.le_refl _) o)
theorem Ss.drewN (h : Ss w v l) (n : Nat) : Ss (w.drewN n) v l := h
theorem Ss.drew (h : Ss w v l) : Ss w.drew v l := h
theorem Ss.form (h : Ss w v l) : ∃ A c, v = .slice A l.length c ∧ l.length ≤ c ∧ c ≤ 9223372036854775807 := by
  obtain ⟨xs, h1, h2⟩ := h
  obtain ⟨A, c, hv, h3, h4⟩ := h1.form
  rw [← h2.len] at hv h3
  exact ⟨A, c, hv, h3, h4⟩
theorem Ss.ok (h : Ss w v l) {i : Nat} {s : Sn} (hi : l[i]? = some s) : s.ok := by
  obtain ⟨xs, h1, h2⟩ := h
  obtain ⟨x, _, hx⟩ := h2.right hi
  exact hx.1
/-- the cells of one span -/
theorem Ss.cells {A : Option Addr} {n c : Nat} (h : Ss w (.slice A n c) l) {i : Nat} {s : Sn} (hi : l[i]? = some s) :
    ∃ g o d, A = some ⟨g, o, none⟩ ∧ g < w.heap.size ∧ w.cell? ⟨g, o + i * 5, none⟩ = some (.int .u64 s.tr) ∧ w.cell? ⟨g, o + i * 5 + 1, none⟩ = some (.int .u64 s.id) ∧ w.cell? ⟨g, o + i * 5 + 2, none⟩ = some (.int .i64 s.st) ∧
      w.cell? ⟨g, o + i * 5 + 3, none⟩ = some (.int .i64 s.en) ∧ w.cell? ⟨g, o + i * 5 + 4, none⟩ = some d ∧ Bs w d s.data ∧ s.ok := by
  obtain ⟨xs, h1, h2⟩ := h
  obtain ⟨x, hx, hok, d, rfl, hd⟩ := h2.right hi
  obtain ⟨g, o, hA, hg, hc⟩ := h1.cells (by omega) hx
  exact ⟨g, o, d, hA, hg, hc 0 _ rfl, hc 1 _ rfl, hc 2 _ rfl, hc 3 _ rfl, hc 4 _ rfl, hd, hok⟩
end

/-- are spans few, and short? -/
def fewB (l : List Sn) (n : Int) : Bool := l.all (fun s => decide (s.data.length ≤ 200)) && decide ((l.length : Int) ≤ n)

theorem take_all_snoc {α : Type} {l : List α} {p : α → Bool} {k : Nat} (hk : k < l.length) (h : (l.take k).all p = true) (hp : p l[k] = true) : (l.take (k + 1)).all p = true := by
  rw [List.take_succ_eq_append_getElem hk, List.all_append, h]
  simpa using hp
theorem all_of_not {α : Type} {l : List α} {p : α → Bool} {k : Nat} (hk : k < l.length) (hp : p l[k] = false) : l.all p = false := by
  rw [List.all_eq_false]
  exact ⟨l[k], List.getElem_mem hk, by simp [hp]⟩

set_option maxHeartbeats 800000 in
theorem Few_any (v : Value) (l : List Sn) (n : Int) (w : World) (h : Ss w v l) :
    Calls Try.prog 32 #[v, .int .i64 n] w fun e w' => e = .returned (.bool (fewB l n)) ∧ w = w' := by
  obtain ⟨A, c, rfl, hc1, hc2⟩ := h.form
  have H := Lib.hid h
  clear h
  go_enter Try.func32, Try.ntmps32
  go_wp2
  go_loop [5] (fun i => ∃ k : Nat, k ≤ l.length ∧ i = .int .i64 k ∧ Hid ((l.take k).all (fun s => decide (s.data.length ≤ 200)) = true)) (fun i => l.length - (intOf i).toNat)
  case atStart => exact ⟨0, Nat.zero_le _, rfl, Lib.hid (by simp)⟩
  case round =>
    obtain ⟨k, hk, rfl, HK⟩ := hrel
    by_cases hlt : k < l.length
    · obtain ⟨g, o, d, rfl, hg, _, _, _, _, c4, hd, _⟩ := H.out.cells (List.getElem?_eq_getElem hlt)
      obtain ⟨A', c', rfl, hc1', hc2', _⟩ := hd
      by_cases hs : l[k].data.length ≤ 200
      · have HS := Lib.hid hs
        go_wp2
        refine ⟨⟨k + 1, by omega, by go_num, Lib.hid (take_all_snoc hlt HK.out (decide_eq_true HS.out))⟩, by simp [intOf]; omega⟩
      · have HS := Lib.hid hs
        go_wp2
        go_ret
        refine ⟨ret_bool ?_, rfl⟩
        rw [fewB, all_of_not hlt (decide_eq_false HS.out)]
        rfl
    · go_wp2
      go_ret
      refine ⟨ret_bool ?_, rfl⟩
      have e := HK.out
      rw [List.take_of_length_le (by omega)] at e
      rw [fewB, e]
      rfl

/-- a span's bytes -/
def encOne (s : Sn) : List UInt8 := bet s.tr.toNat 8 ++ (bet s.id.toNat 8 ++ (bet s.st.toNat 8 ++ (bet s.en.toNat 8 ++ (bet s.data.length 2 ++ s.data))))
theorem encOne_length (s : Sn) : (encOne s).length = 34 + s.data.length := by
  simp [encOne, bet_length]
  omega

theorem putOk8 (n : Int) (h1 : n ≤ 18446744073709551615) : putOk 8 n = true := by
  have h4 : (256 : Nat) ^ 8 = 18446744073709551616 := by decide
  have h2 : n.toNat < 256 ^ (8 : Int).toNat := by
    show n.toNat < 256 ^ 8
    omega
  simp only [putOk, Bool.and_eq_true, decide_eq_true_iff]
  exact ⟨by decide, h2⟩

theorem may_bounds {s : Sn} (h : mayB s = true) : 0 ≤ s.st ∧ s.st ≤ s.en ∧ s.en ≤ 1099511627776 ∧ s.data.length ≤ 64 := by
  simpa [mayB] using h

end Go.Proofs.Ytpanpebllapbcaa

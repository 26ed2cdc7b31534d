/-
  A STORE's OBJECTS AS PLAIN LISTS: look-ups ('fnd') behind Put, Delete, Alter; names that rise; the names that begin so are what a sort of them gives. No program; no condition but what each theorem says.
-/
import Derived.Test.YtihpnkhkbbakbaaStD
import Derived.Sort.KeysCollected
import Derived.Sort.OwnSorted
import Derived.Maps.RangeWalk
namespace Go.Proofs.Ytihpnkhkbbakbaa
open Go.RowKit

theorem ltB_eq : ∀ (x y : List UInt8), ltB x y = decide (x < y)
  | [], [] => by simp [ltB, Op.bytesLess]
  | _ :: _, [] => by simp [ltB, Op.bytesLess]
  | [], _ :: _ => by simp [ltB, Op.bytesLess]
  | a :: x, b :: y => by
    have ih := ltB_eq x y
    unfold ltB at ih ⊢
    rw [Op.bytesLess, ih]
    simp only [List.cons_lt_cons_iff]
    by_cases h1 : a < b <;> by_cases h2 : a = b <;> by_cases h3 : x < y <;> simp [h1, h2, h3]

/-- names rise -/
def Rise (l : List Ob) : Prop := l.Pairwise fun a b => a.nm < b.nm
theorem Rise.nil : Rise [] := List.Pairwise.nil
theorem Rise.ne {l : List Ob} (h : Rise l) : l.Pairwise fun a b => a.nm ≠ b.nm := h.imp fun {a b} hab e => by rw [e] at hab; exact List.lt_irrefl _ hab

theorem fnd_nil (n : List UInt8) : fnd n [] = none := rfl
theorem fnd_none_iff {n : List UInt8} {l : List Ob} : fnd n l = none ↔ ∀ o ∈ l, o.nm ≠ n := by
  unfold fnd
  rw [List.find?_eq_none]
  simp
theorem fnd_some_nm {n : List UInt8} {l : List Ob} {o : Ob} (h : fnd n l = some o) : o.nm = n := by
  have := List.find?_some h
  simpa using this
theorem fnd_some_mem {n : List UInt8} {l : List Ob} {o : Ob} (h : fnd n l = some o) : o ∈ l := List.mem_of_find?_eq_some h
theorem fnd_of_mem {l : List Ob} (h : Rise l) {o : Ob} (ho : o ∈ l) : fnd o.nm l = some o := by
  induction l with
  | nil => cases ho
  | cons x l ih =>
    obtain ⟨h1, h2⟩ := List.pairwise_cons.1 h
    rcases List.mem_cons.1 ho with rfl | hm
    · simp [fnd]
    · have hne : x.nm ≠ o.nm := fun e => by
        have := h1 o hm
        rw [e] at this
        exact List.lt_irrefl _ this
      rw [fnd_cons_ne hne]
      exact ih h2 hm
theorem atI_of_none {n : List UInt8} {l : List Ob} (h : fnd n l = none) : atI n l = -1 := atI_none (fnd_none_iff.1 h)
theorem fnd_of_at {n : List UInt8} {l : List Ob} (h : atI n l = -1) : fnd n l = none := by
  cases hf : fnd n l with
  | none => rfl
  | some o =>
    obtain ⟨i, e, _⟩ := fnd_at hf
    omega

/-! ### Put -/
theorem insP_le (n : List UInt8) : ∀ l : List Ob, insP n l ≤ l.length
  | [] => Nat.le_refl _
  | o :: l => by
    rw [insP]
    split
    · have := insP_le n l
      simp
      omega
    · omega
theorem insP_before (n : List UInt8) : ∀ (l : List Ob), ∀ o ∈ l.take (insP n l), o.nm < n
  | [], o, h => by simp at h
  | x :: l, o, h => by
    rw [insP] at h
    split at h
    · rename_i hx
      rw [List.take_succ_cons] at h
      rcases List.mem_cons.1 h with rfl | h
      · rw [ltB_eq] at hx
        simpa using hx
      · exact insP_before n l o h
    · simp at h
theorem insP_behind (n : List UInt8) : ∀ (l : List Ob), Rise l → ∀ o ∈ l.drop (insP n l), ¬ o.nm < n
  | [], _, o, h => by simp at h
  | x :: l, hr, o, h => by
    obtain ⟨h1, h2⟩ := List.pairwise_cons.1 hr
    rw [insP] at h
    split at h
    · rw [List.drop_succ_cons] at h
      exact insP_behind n l h2 o h
    · rename_i hx
      rw [ltB_eq] at hx
      have hx' : ¬ x.nm < n := by simpa using hx
      rw [List.drop_zero] at h
      rcases List.mem_cons.1 h with rfl | h
      · exact hx'
      · exact fun ho => hx' (List.lt_trans (h1 o h) ho)
theorem rise_ins {n b : List UInt8} {l : List Ob} (h : Rise l) (hn : fnd n l = none) : Rise (l.take (insP n l) ++ (⟨n, b⟩ :: l.drop (insP n l))) := by
  have hs : Rise (l.take (insP n l) ++ l.drop (insP n l)) := by rw [List.take_append_drop]; exact h
  obtain ⟨h1, h2, h3⟩ := List.pairwise_append.1 hs
  refine List.pairwise_append.2 ⟨h1, List.pairwise_cons.2 ⟨fun o ho => ?_, h2⟩, fun a ha c hc => ?_⟩
  · show n < o.nm
    have hge := insP_behind n l h o ho
    have hne := fnd_none_iff.1 hn o (List.mem_of_mem_drop ho)
    by_cases hlt : n < o.nm
    · exact hlt
    · exact absurd (List.le_antisymm (List.not_lt.1 hlt) (List.not_lt.1 hge)) hne
  · rcases List.mem_cons.1 hc with rfl | hc
    · exact insP_before n l a ha
    · exact h3 a ha c hc
theorem rise_set {l : List Ob} (h : Rise l) {i : Nat} {o p : Ob} (ho : l[i]? = some o) (hp : p.nm = o.nm) : Rise (l.set i p) := by
  have e : (l.set i p).map (·.nm) = l.map (·.nm) := by
    rw [List.map_set, hp]
    have : (l.map (·.nm))[i]? = some o.nm := by rw [List.getElem?_map, ho]; rfl
    obtain ⟨hi, he⟩ := List.getElem?_eq_some_iff.1 this
    rw [← he, List.set_getElem_self]
  have h1 : (l.map (·.nm)).Pairwise (· < ·) := List.pairwise_map.2 h
  rw [← e] at h1
  exact List.pairwise_map.1 h1

/-- Put, where it goes well -/
theorem sPut_ok {m : Sm} {n b : List UInt8} (h1 : callB m = true) (h2 : nameB n = true) (h3 : ¬ restU m n + b.length > m.room) (hr : Rise m.l) : ∃ l', sPut m n b = ({ callS m with l := l' }, 0) ∧ Rise l' ∧ (usedL l' : Int) = restU m n + b.length ∧
    fnd n l' = some ⟨n, b⟩ ∧ ∀ s, s ≠ n → fnd s l' = fnd s m.l := by
  have h1' : ¬ callB m = false := by rw [h1]; simp
  have h2' : ¬ nameB n = false := by rw [h2]; simp
  have ho : ∀ s, s ≠ n → fnd s (sPut m n b).1.l = fnd s m.l := fun s hs => fnd_put (Ne.symm hs)
  by_cases hneg : atI n m.l < 0
  · have hai : atI n m.l = -1 := by
      rcases atI_ge n m.l with e | ⟨i, o, e, _⟩
      · exact e
      · omega
    have e : sPut m n b = ({ callS m with l := m.l.take (insP n m.l) ++ (⟨n, b⟩ :: m.l.drop (insP n m.l)) }, 0) := by rw [sPut, if_neg h1', if_neg h2', if_neg h3, if_pos hneg]
    rw [e] at ho
    refine ⟨_, e, rise_ins hr (fnd_of_at hai), ?_, ?_, ho⟩
    · rw [restU_none hai, usedL_append, usedL_cons]
      have := usedL_split m.l (insP n m.l)
      simp only
      omega
    · have hno : fnd n (m.l.take (insP n m.l)) = none := fnd_none_iff.2 fun o ho => fnd_none_iff.1 (fnd_of_at hai) o (List.mem_of_mem_take ho)
      rw [fnd_append, hno, fnd, List.find?_cons]
      simp
  · rcases atI_ge n m.l with e | ⟨i, o, e, ho', hon⟩
    · omega
    · have e' : sPut m n b = ({ callS m with l := m.l.set i ⟨n, b⟩ }, 0) := by rw [sPut, if_neg h1', if_neg h2', if_neg h3, if_neg hneg, e, Int.toNat_natCast]
      rw [e'] at ho
      refine ⟨_, e', rise_set hr ho' hon.symm, ?_, fnd_set_same b e ho', ho⟩
      rw [restU_some e ho']
      have := usedL_set (⟨n, b⟩ : Ob) ho'
      simp only at this
      omega
theorem sPut_e8 {m : Sm} {n b : List UInt8} (h1 : callB m = false) : sPut m n b = (callS m, 8) := by rw [sPut, if_pos h1]
theorem sPut_e1 {m : Sm} {n b : List UInt8} (h1 : callB m = true) (h2 : nameB n = false) : sPut m n b = (callS m, 1) := by rw [sPut, if_neg (by rw [h1]; simp), if_pos h2]
theorem sPut_e6 {m : Sm} {n b : List UInt8} (h1 : callB m = true) (h2 : nameB n = true) (h3 : restU m n + b.length > m.room) : sPut m n b = (callS m, 6) := by rw [sPut, if_neg (by rw [h1]; simp), if_neg (by rw [h2]; simp), if_pos h3]
/-- how many bytes there are -/
def obLen : Option Ob → Int
  | some o => (o.b.length : Int)
  | none => 0
theorem restU_fnd {m : Sm} {n : List UInt8} : restU m n = (usedL m.l : Int) - obLen (fnd n m.l) := by
  cases hf : fnd n m.l with
  | none => simp [restU_none (atI_of_none hf), obLen]
  | some o =>
    obtain ⟨i, e, ho⟩ := fnd_at hf
    rw [restU_some e ho]
    rfl
theorem usedL_fnd {n : List UInt8} {l : List Ob} {o : Ob} (h : fnd n l = some o) : o.b.length ≤ usedL l := by
  obtain ⟨i, _, ho⟩ := fnd_at h
  exact usedL_at ho

/-! ### Delete -/
theorem sDel_ok {m : Sm} {n : List UInt8} {o : Ob} (h1 : callB m = true) (hf : fnd n m.l = some o) (hr : Rise m.l) : ∃ l', sDel m n = ({ callS m with l := l' }, 0) ∧ Rise l' ∧ usedL l' + o.b.length = usedL m.l ∧ fnd n l' = none ∧ ∀ s, s ≠ n → fnd s l' = fnd s m.l := by
  obtain ⟨i, e, ho⟩ := fnd_at hf
  have hd : ∀ s, s ≠ n → fnd s (sDel m n).1.l = fnd s m.l := fun s hs => fnd_del (Ne.symm hs)
  have e' := sDel_some h1 e
  rw [e'] at hd
  have hil := (List.getElem?_eq_some_iff.1 ho).1
  have hdr : m.l.drop i = o :: m.l.drop (i + 1) := by rw [List.drop_eq_getElem_cons hil, (List.getElem?_eq_some_iff.1 ho).2]
  have hs : Rise (m.l.take i ++ m.l.drop i) := by rw [List.take_append_drop]; exact hr
  rw [hdr] at hs
  obtain ⟨r1, r2, r3⟩ := List.pairwise_append.1 hs
  obtain ⟨r4, r5⟩ := List.pairwise_cons.1 r2
  have hon := fnd_some_nm hf
  refine ⟨_, e', List.pairwise_append.2 ⟨r1, r5, fun a ha c hc => r3 a ha c (List.mem_cons_of_mem _ hc)⟩, ?_, ?_, hd⟩
  · rw [usedL_append]
    have h1 := usedL_split m.l i
    rw [hdr, usedL_cons] at h1
    omega
  · refine fnd_none_iff.2 fun x hx hxn => ?_
    rcases List.mem_append.1 hx with h | h
    · have := r3 x h o (List.mem_cons_self ..)
      rw [hon, hxn] at this
      exact List.lt_irrefl _ this
    · have := r4 x h
      rw [hon, hxn] at this
      exact List.lt_irrefl _ this
theorem sDel_no {m : Sm} {n : List UInt8} (h1 : callB m = true) (hf : fnd n m.l = none) : sDel m n = (callS m, 4) := sDel_none h1 (atI_of_none hf)
theorem sGet_no {m : Sm} {n : List UInt8} (h1 : callB m = true) (hf : fnd n m.l = none) : sGet m n = ([], 4) := sGet_none h1 (atI_of_none hf)

/-! ### Alter -/
theorem sAlt_no' {m : Sm} {n : List UInt8} {at_ : Int} {x : UInt8} (h : fnd n m.l = none ∨ x = 0 ∨ at_ < 0) : sAlt m n at_ x = (m, false) := by
  refine sAlt_no ?_
  rcases h with h | h
  · exact .inl (by rw [atI_of_none h]; decide)
  · exact .inr h
theorem sAlt_out' {m : Sm} {n : List UInt8} {at_ : Int} {x : UInt8} {o : Ob} (hf : fnd n m.l = some o) (h : (o.b.length : Int) ≤ at_) : sAlt m n at_ x = (m, false) := by
  obtain ⟨i, e, ho⟩ := fnd_at hf
  exact sAlt_out e ho (by omega)
theorem sAlt_ok {m : Sm} {n : List UInt8} {k : Nat} {x y : UInt8} {o : Ob} (hf : fnd n m.l = some o) (hx : x ≠ 0) (hy : o.b[k]? = some y) (hr : Rise m.l) :
    ∃ l', sAlt m n (k : Int) x = ({ m with l := l' }, true) ∧ Rise l' ∧ usedL l' = usedL m.l ∧ fnd n l' = some ⟨n, o.b.set k (y ^^^ x)⟩ ∧ ∀ s, s ≠ n → fnd s l' = fnd s m.l := by
  obtain ⟨i, e, ho⟩ := fnd_at hf
  have hon := fnd_some_nm hf
  refine ⟨_, sAlt_yes e ho hx hy, rise_set hr ho hon.symm, ?_, fnd_set_same _ e ho, fun s hs => ?_⟩
  · have := usedL_set (⟨n, o.b.set k (y ^^^ x)⟩ : Ob) ho
    simp only [List.length_set] at this
    omega
  · exact fnd_set _ ho (by rw [hon]; exact Ne.symm hs) (Ne.symm hs)

/-! ### List -/
theorem rise_names {l : List Ob} (h : Rise l) (p : List UInt8) : (sNames l p).Pairwise (· < ·) := by
  unfold sNames
  exact List.pairwise_map.2 (h.sublist List.filter_sublist)
theorem mem_names {l : List Ob} (h : Rise l) {p s : List UInt8} : s ∈ sNames l p ↔ (fnd s l).isSome = true ∧ begB s p = true := by
  unfold sNames
  rw [List.mem_map]
  constructor
  · rintro ⟨o, ho, rfl⟩
    obtain ⟨h1, h2⟩ := List.mem_filter.1 ho
    rw [fnd_of_mem h h1]
    exact ⟨rfl, h2⟩
  · rintro ⟨h1, h2⟩
    obtain ⟨o, ho⟩ := Option.isSome_iff_exists.1 h1
    have hn := fnd_some_nm ho
    exact ⟨o, List.mem_filter.2 ⟨fnd_some_mem ho, by rw [hn]; exact h2⟩, hn⟩
/-- whatever order they came in: sorted, they are the names -/
theorem names_sorted {l : List Ob} (h : Rise l) {p : List UInt8} {ss : List (List UInt8)} (hnd : ss.Nodup) (hm : ∀ s, s ∈ ss ↔ (fnd s l).isSome = true ∧ begB s p = true) : ss.mergeSort (fun x y => decide (x ≤ y)) = sNames l p := by
  have hr := rise_names h p
  have hnd2 : (sNames l p).Nodup := hr.imp fun {a b} hab e => by rw [e] at hab; exact List.lt_irrefl _ hab
  have hp : ss.Perm (sNames l p) := (List.perm_ext_iff_of_nodup hnd hnd2).2 fun s => by rw [hm s, mem_names h]
  refine (mergeSort_of_perm hp).trans (List.mergeSort_of_pairwise ?_)
  exact hr.imp fun {a b} hab => by simpa using List.le_of_lt hab
end Go.Proofs.Ytihpnkhkbbakbaa

/-
  A BLOCK, plain: which sizes may be ('szB'), of what a block may be made ('BkOk'), its meta ('bkMe'), what is put of it ('bkObs'). No condition but what each theorem says.
  OBJECTS PUT ONE BEHIND THE OTHER, plain: 'wrL' (up to the first that fails); what is there then; a store's objects put anew, by rising names. No condition but what each theorem says.
-/
import Derived.Test.YtfaefacefdkjdaaGreatDoorPgH
import Derived.Test.YtfaefacefdkjdaaGreatDoorIxF
import Derived.Test.YtfaefacefdkjdaaGreatDoorBlJ
import Derived.Test.YtfaefacefdkjdaaGreatDoorMtL
import Derived.Test.YtfaefacefdkjdaaGreatDoorStA
import Derived.Lib.MinMax
namespace Go.Proofs.YtfaefacefdkjdaaGreatDoor
open Go.RowKit
set_option maxRecDepth 100000

structure Sz where
  pg : Int
  sh : Int
  bi : Int
  hs : Int
structure Sz.ok (s : Sz) : Prop where
  p0 : -9223372036854775808 ≤ s.pg
  p1 : s.pg ≤ 9223372036854775807
  s0 : -9223372036854775808 ≤ s.sh
  s1 : s.sh ≤ 9223372036854775807
  b0 : -9223372036854775808 ≤ s.bi
  b1 : s.bi ≤ 9223372036854775807
  h0 : -9223372036854775808 ≤ s.hs
  h1 : s.hs ≤ 9223372036854775807
def szV (s : Sz) : Value := .agg #[.int .i64 s.pg, .int .i64 s.sh, .int .i64 s.bi, .int .i64 s.hs]
def szB (s : Sz) : Bool := rightI s.sh s.bi s.hs && (decide (64 ≤ s.pg) && decide (s.pg ≤ 8192))
theorem szB_iff {s : Sz} : szB s = true ↔ rightI s.sh s.bi s.hs = true ∧ 64 ≤ s.pg ∧ s.pg ≤ 8192 := by
  simp [szB, Bool.and_eq_true]

def stF (a : Int) (l : List Sn) : Int := l.foldl (fun a s => min a s.st) a
def enF (a : Int) (l : List Sn) : Int := l.foldl (fun a s => max a s.en) a
theorem stF_snoc (a : Int) (l : List Sn) (s : Sn) : stF a (l ++ [s]) = min (stF a l) s.st := by simp [stF]
theorem enF_snoc (a : Int) (l : List Sn) (s : Sn) : enF a (l ++ [s]) = max (enF a l) s.en := by simp [enF]
theorem stF_le : ∀ (l : List Sn) (a : Int), stF a l ≤ a
  | [], a => Int.le_refl _
  | s :: l, a => by
    have := stF_le l (min a s.st)
    rw [stF, List.foldl_cons]
    rw [stF] at this
    omega
theorem enF_ge : ∀ (l : List Sn) (a : Int), a ≤ enF a l
  | [], a => Int.le_refl _
  | s :: l, a => by
    have := enF_ge l (max a s.en)
    rw [enF, List.foldl_cons]
    rw [enF] at this
    omega
theorem stF_lo {b : Int} : ∀ (l : List Sn) (a : Int), b ≤ a → (∀ s ∈ l, b ≤ s.st) → b ≤ stF a l
  | [], a, h, _ => h
  | s :: l, a, h, hs => by
    have h1 := hs s (List.mem_cons_self ..)
    have := stF_lo l (min a s.st) (by omega) fun x hx => hs x (List.mem_cons_of_mem _ hx)
    rw [stF, List.foldl_cons]
    exact this
theorem enF_hi {b : Int} : ∀ (l : List Sn) (a : Int), a ≤ b → (∀ s ∈ l, s.en ≤ b) → enF a l ≤ b
  | [], a, h, _ => h
  | s :: l, a, h, hs => by
    have h1 := hs s (List.mem_cons_self ..)
    have := enF_hi l (max a s.en) (by omega) fun x hx => hs x (List.mem_cons_of_mem _ hx)
    rw [enF, List.foldl_cons]
    exact this
def stM : List Sn → Int
  | [] => 0
  | x :: l => stF x.st (x :: l)
def enM : List Sn → Int
  | [] => 0
  | x :: l => enF x.en (x :: l)

def pagesOf (l : List Tn) (s : Sz) : List (List Tn) := cutL s.pg l.length l
def bkMe (id : Nat) (lv : Int) (l : List Tn) (s : Sz) : Me := ⟨id, lv, stM (flatT l), enM (flatT l), ((pagesOf l s).length : Nat), (l.length : Nat)⟩
structure BkOk (id : Nat) (lv : Int) (l : List Tn) (s : Sz) : Prop where
  sz : szB s = true
  ne : l ≠ []
  is : IsT l
  id0 : id ≠ 0
  lv0 : 0 ≤ lv
  lv1 : lv ≤ 10

theorem isT_span {l : List Tn} (h : IsT l) : ∀ s ∈ flatT l, 0 ≤ s.st ∧ s.st ≤ s.en ∧ s.en ≤ 1099511627776 := by
  intro s hs
  obtain ⟨t, ht, hst⟩ := List.mem_flatMap.1 hs
  obtain ⟨k, hk⟩ := List.getElem?_of_mem ht
  obtain ⟨j, hj⟩ := List.getElem?_of_mem hst
  have := ((h.each k t hk).one j s hj).2
  simp only [mayB, Bool.and_eq_true, decide_eq_true_iff] at this
  omega
theorem isT_first {l : List Tn} (h : IsT l) (hl : l ≠ []) : ∃ t0 l' x0 r, l = t0 :: l' ∧ t0.sp = x0 :: r ∧ flatT l = x0 :: (r ++ flatT l') := by
  cases l with
  | nil => exact absurd rfl hl
  | cons t0 l' =>
    have h1 := (h.each 0 t0 rfl).lo
    cases hs : t0.sp with
    | nil => rw [hs] at h1; simp at h1
    | cons x0 r => exact ⟨t0, l', x0, r, rfl, hs, by simp [flatT, hs]⟩

theorem pages_flat (l : List Tn) (s : Sz) : (pagesOf l s).flatten = l := cutL_flat s.pg l.length l (Nat.le_refl _)
theorem pages_len (l : List Tn) (s : Sz) : (pagesOf l s).length ≤ l.length := cutL_len s.pg l.length l
theorem len_flat_le {α : Type} (n : Nat) : ∀ L : List (List α), (∀ p ∈ L, p.length ≤ n) → L.flatten.length ≤ n * L.length
  | [], _ => by simp
  | p :: L, h => by
    have h1 := h p (List.mem_cons_self ..)
    have h2 := len_flat_le n L fun q hq => h q (List.mem_cons_of_mem _ hq)
    rw [List.flatten_cons, List.length_append, List.length_cons, Nat.mul_succ]
    omega
theorem pages_most {l : List Tn} (h : IsT l) (s : Sz) : l.length ≤ 64 * (pagesOf l s).length := by
  have := len_flat_le 64 (pagesOf l s) fun p hp => (cutL_parts s.pg l.length l h p hp).2.1
  rwa [pages_flat] at this
theorem pages_some {l : List Tn} (hl : l ≠ []) (s : Sz) : 1 ≤ (pagesOf l s).length := by
  cases hp : pagesOf l s with
  | nil =>
    have := pages_flat l s
    rw [hp] at this
    exact absurd this.symm hl
  | cons p q => simp
theorem pages_pgB {l : List Tn} (h : IsT l) (s : Sz) : ∀ p ∈ pagesOf l s, pgB p = true := fun p hp => by
  obtain ⟨_, h2, h3, _⟩ := cutL_parts s.pg l.length l h p hp
  exact pgB_iff.2 ⟨h2, h3⟩
theorem pages_ok {l : List Tn} (h : IsT l) (s : Sz) (hp : (pagesOf l s).length ≤ 200) : pagesB (pagesOf l s) = true := by
  rw [pagesB, pages_flat, isB_true h, decide_eq_true hp, Bool.true_and, Bool.true_and, List.all_eq_true]
  intro p hp
  have := (cutL_parts s.pg l.length l h p hp).1
  exact decide_eq_true (by omega)

theorem bkMe_ok {id : Nat} {lv : Int} {l : List Tn} {s : Sz} (h : BkOk id lv l s) (hid : id < 18446744073709551616) (hp : (pagesOf l s).length ≤ 200) (hl : l.length ≤ 1000000) : meB (bkMe id lv l s) = true ∧ (bkMe id lv l s).ok := by
  obtain ⟨t0, l', x0, r, hl0, hs0, hf⟩ := isT_first h.is h.ne
  have hsp := isT_span h.is
  have h0 := hsp x0 (by rw [hf]; exact List.mem_cons_self ..)
  have e1 : stM (flatT l) = stF x0.st (flatT l) := by rw [hf]; rfl
  have e2 : enM (flatT l) = enF x0.en (flatT l) := by rw [hf]; rfl
  have a1 := stF_le (flatT l) x0.st
  have a2 := enF_ge (flatT l) x0.en
  have a3 := stF_lo (b := 0) (flatT l) x0.st h0.1 fun s hs => (hsp s hs).1
  have a4 := enF_hi (b := 1099511627776) (flatT l) x0.en h0.2.2 fun s hs => (hsp s hs).2.2
  have b1 := pages_most h.is s
  have b2 := pages_some h.ne s
  have b3 := pages_len l s
  have := h.id0
  have := h.lv0
  have := h.lv1
  refine ⟨decide_eq_true ?_, ?_⟩
  · show 1 ≤ (id : Int) ∧ 0 ≤ lv ∧ lv ≤ 10 ∧ 0 ≤ stM (flatT l) ∧ stM (flatT l) ≤ enM (flatT l) ∧ enM (flatT l) ≤ 1099511627776 ∧ 1 ≤ (((pagesOf l s).length : Nat) : Int) ∧ (((pagesOf l s).length : Nat) : Int) ≤ 200 ∧ (((pagesOf l s).length : Nat) : Int) ≤ ((l.length : Nat) : Int) ∧ ((l.length : Nat) : Int) ≤ 64 * (((pagesOf l s).length : Nat) : Int)
    rw [e1, e2]
    refine ⟨by omega, by omega, by omega, a3, by omega, a4, by omega, by omega, by omega, by omega⟩
  · refine ⟨?_, ?_, ?_, ?_, ?_, ?_, ?_, ?_, ?_, ?_, ?_, ?_⟩ <;> simp only [bkMe, e1, e2] <;> omega

def obPg (id : Nat) (p : List Tn) (i : Nat) : Ob := ⟨nmOf id [112] (i : Int), pgOf p⟩
def obPages (id : Nat) (ps : List (List Tn)) : List Ob := ps.zipIdx.map fun x => obPg id x.1 x.2
theorem obPages_length (id : Nat) (ps : List (List Tn)) : (obPages id ps).length = ps.length := by simp [obPages]
theorem obPages_snoc (id : Nat) (ps : List (List Tn)) (p : List Tn) : obPages id (ps ++ [p]) = obPages id ps ++ [obPg id p ps.length] := by simp [obPages, List.zipIdx_append]
def bkIx (ps : List (List Tn)) : List UInt8 := sealedOf (ixBytes (ps.map firstId))
def bkFl (l : List Tn) (s : Sz) : Bl := (Bl.new s.sh.toNat s.bi.toNat s.hs.toNat).adds (l.map fun t => t.id.toNat)
def bkObs (id : Nat) (lv : Int) (l : List Tn) (s : Sz) : List Ob :=
  obPages id (pagesOf l s) ++ [⟨nmOf id [105] 0, bkIx (pagesOf l s)⟩, ⟨nmOf id [102] 0, (bkFl l s).bytes⟩, ⟨nmOf id [109] 0, sealedOf (meRaw (bkMe id lv l s))⟩]
theorem bkObs_length (id : Nat) (lv : Int) (l : List Tn) (s : Sz) : (bkObs id lv l s).length = (pagesOf l s).length + 3 := by simp [bkObs, obPages_length]

end Go.Proofs.YtfaefacefdkjdaaGreatDoor

namespace Go.Proofs.YtfaefacefdkjdaaGreatDoor
open Go.RowKit
set_option maxRecDepth 100000

def wrL (m : Sm) : List Ob → Sm × Int
  | [] => (m, 0)
  | o :: os => if (sPut m o.nm o.b).2 = 0 then wrL (sPut m o.nm o.b).1 os else sPut m o.nm o.b
theorem wrL_ok {m : Sm} {o : Ob} {os : List Ob} (h : (sPut m o.nm o.b).2 = 0) : wrL m (o :: os) = wrL (sPut m o.nm o.b).1 os := by rw [wrL, if_pos h]
theorem wrL_no {m : Sm} {o : Ob} {os : List Ob} (h : (sPut m o.nm o.b).2 ≠ 0) : wrL m (o :: os) = sPut m o.nm o.b := by rw [wrL, if_neg h]
theorem sPut_left {m : Sm} {n b : List UInt8} (h : (sPut m n b).2 ≠ 0) : (sPut m n b).1.l = m.l := by
  unfold sPut at h ⊢
  repeat' split
  all_goals first | rfl | (rename_i h1 h2 h3 h4; simp [h1, h2, h3, h4] at h)
theorem sPut_room (m : Sm) (n b : List UInt8) : (sPut m n b).1.room = m.room := by
  unfold sPut callS
  repeat' split
  all_goals rfl
theorem wrL_fine : ∀ (os : List Ob) (m : Sm) (N : Nat), m.fine N → (wrL m os).1.fine (N + os.length)
  | [], m, N, h => h
  | o :: os, m, N, h => by
    rw [wrL]
    have h1 := h.put o.nm o.b
    split
    · have := wrL_fine os _ _ h1
      rw [List.length_cons]
      exact this.more (by omega)
    · exact h1.more (by simp)
structure Kept (m : Sm) : Prop where
  rise : Rise m.l
  named : ∀ o ∈ m.l, nameB o.nm = true
  fits : (usedL m.l : Int) ≤ m.room
theorem sPut_zero {m : Sm} {n b : List UInt8} (h : (sPut m n b).2 = 0) : callB m = true ∧ nameB n = true ∧ ¬ restU m n + b.length > m.room := by
  cases h1 : callB m with
  | false => rw [sPut_e8 h1] at h; simp at h
  | true =>
    cases h2 : nameB n with
    | false => rw [sPut_e1 h1 h2] at h; simp at h
    | true =>
      refine ⟨rfl, rfl, fun h3 => ?_⟩
      rw [sPut_e6 h1 h2 h3] at h
      simp at h
theorem Kept.put {m : Sm} (h : Kept m) (n b : List UInt8) : Kept (sPut m n b).1 := by
  by_cases h0 : (sPut m n b).2 = 0
  · obtain ⟨h1, h2, h3⟩ := sPut_zero h0
    obtain ⟨l', e, hr, hu, hf, ho⟩ := sPut_ok h1 h2 h3 h.rise
    rw [e]
    refine ⟨hr, fun o hm => ?_, ?_⟩
    · have hfo := fnd_of_mem hr hm
      by_cases hn : o.nm = n
      · rw [hn]; exact h2
      · rw [ho o.nm hn] at hfo
        exact h.named o (fnd_some_mem hfo)
    · show (usedL l' : Int) ≤ m.room
      rw [hu]
      omega
  · have e := sPut_left h0
    have e2 := sPut_room m n b
    exact ⟨by rw [e]; exact h.rise, by rw [e]; exact h.named, by rw [e, e2]; exact h.fits⟩
theorem Kept.wr : ∀ (os : List Ob) (m : Sm), Kept m → Kept (wrL m os).1
  | [], m, h => h
  | o :: os, m, h => by
    rw [wrL]
    split
    · exact Kept.wr os _ (h.put _ _)
    · exact h.put _ _
theorem wrL_other {n : List UInt8} : ∀ (os : List Ob) (m : Sm), (∀ o ∈ os, o.nm ≠ n) → fnd n (wrL m os).1.l = fnd n m.l
  | [], m, _ => rfl
  | o :: os, m, h => by
    have h1 := h o (List.mem_cons_self ..)
    rw [wrL]
    split
    · rw [wrL_other os _ fun x hx => h x (List.mem_cons_of_mem _ hx), fnd_put h1]
    · exact fnd_put h1
theorem wrL_all : ∀ (os : List Ob) (m : Sm), os.Pairwise (fun a b => a.nm ≠ b.nm) → (wrL m os).2 = 0 → ∀ o ∈ os, ∃ o', fnd o.nm (wrL m os).1.l = some o' ∧ o'.b = o.b
  | [], m, _, _, o, ho => by cases ho
  | p :: os, m, hp, h, o, ho => by
    obtain ⟨h1, h2⟩ := List.pairwise_cons.1 hp
    by_cases hz : (sPut m p.nm p.b).2 = 0
    · rw [wrL_ok hz] at h ⊢
      rcases List.mem_cons.1 ho with rfl | ho
      · rw [wrL_other os _ fun x hx => (h1 x hx).symm]
        exact fnd_same hz
      · exact wrL_all os _ h2 h o ho
    · rw [wrL_no hz] at h
      exact absurd h hz
theorem digs_lt {i j : Nat} (hi : i < 1000) (hj : j < 1000) (h : digs 10 i 3 = digs 10 j 3) : i = j := digs_inj 10 3 (by omega) (by omega) (by omega) (by omega) h
theorem obPages_mem {id : Nat} {ps : List (List Tn)} {o : Ob} (h : o ∈ obPages id ps) : ∃ (i : Nat) (p : List Tn), ps[i]? = some p ∧ o = obPg id p i := by
  obtain ⟨⟨p, i⟩, hx, rfl⟩ := List.mem_map.1 h
  exact ⟨i, p, by simpa using List.mem_zipIdx_iff_getElem?.1 hx, rfl⟩
theorem obPages_at {id : Nat} {ps : List (List Tn)} {i : Nat} {p : List Tn} (h : ps[i]? = some p) : obPg id p i ∈ obPages id ps :=
  List.mem_map.2 ⟨(p, i), List.mem_zipIdx_iff_getElem?.2 (by simpa using h), rfl⟩
theorem nm_p_ne {id i : Nat} {what : List UInt8} {n : Int} (hw : sortW what) : nmOf id [112] (i : Int) ≠ nmOf id what n := by
  rw [nmOf_p, nmOf_sort hw]
  intro h
  have := congrArg List.length h
  simp [digs_length, sortW_len hw, nmHead_length] at this
theorem nm_sort_ne {id : Nat} {a b : List UInt8} {n k : Int} (ha : sortW a) (hb : sortW b) (h : a ≠ b) : nmOf id a n ≠ nmOf id b k := by
  rw [nmOf_sort ha, nmOf_sort hb]
  exact fun e => h (List.append_cancel_left e)
theorem sW_m : sortW [109] := .inl rfl
theorem sW_i : sortW [105] := .inr (.inl rfl)
theorem sW_f : sortW [102] := .inr (.inr (.inl rfl))
theorem pagesNames {id : Nat} {ps : List (List Tn)} (hp : ps.length ≤ 200) : (obPages id ps).Pairwise fun a b => a.nm ≠ b.nm := by
  rw [List.pairwise_iff_getElem]
  intro i j hi hj hij h
  simp only [obPages, List.getElem_map, List.getElem_zipIdx, obPg, Nat.zero_add] at h
  rw [obPages_length] at hi hj
  rw [nmOf_p, nmOf_p, pgN_nat _ (by omega), pgN_nat _ (by omega)] at h
  have := digs_lt (by omega) (by omega) (List.append_cancel_left h)
  omega
def bkFore (id : Nat) (l : List Tn) (s : Sz) : List Ob := obPages id (pagesOf l s) ++ [⟨nmOf id [105] 0, bkIx (pagesOf l s)⟩, ⟨nmOf id [102] 0, (bkFl l s).bytes⟩]
def bkMeOb (id : Nat) (lv : Int) (l : List Tn) (s : Sz) : Ob := ⟨nmOf id [109] 0, sealedOf (meRaw (bkMe id lv l s))⟩
theorem bkObs_fore (id : Nat) (lv : Int) (l : List Tn) (s : Sz) : bkObs id lv l s = bkFore id l s ++ [bkMeOb id lv l s] := by simp [bkObs, bkFore, bkMeOb]
theorem bkFore_ne {id : Nat} {lv : Int} {l : List Tn} {s : Sz} : ∀ o ∈ bkFore id l s, o.nm ≠ (bkMeOb id lv l s).nm := by
  intro o ho
  rcases List.mem_append.1 ho with h | h
  · obtain ⟨i, p, _, rfl⟩ := obPages_mem h
    exact nm_p_ne (n := 0) sW_m
  · simp only [List.mem_cons, List.not_mem_nil, or_false] at h
    rcases h with rfl | rfl
    · exact nm_sort_ne (n := 0) (k := 0) sW_i sW_m (by decide)
    · exact nm_sort_ne (n := 0) (k := 0) sW_f sW_m (by decide)
theorem bkObs_names {id : Nat} {lv : Int} {l : List Tn} {s : Sz} (hp : (pagesOf l s).length ≤ 200) : (bkObs id lv l s).Pairwise fun a b => a.nm ≠ b.nm := by
  rw [bkObs_fore, List.pairwise_append]
  refine ⟨?_, List.pairwise_singleton .., fun a ha b hb => ?_⟩
  · rw [bkFore, List.pairwise_append]
    refine ⟨pagesNames hp, ?_, fun a ha b hb => ?_⟩
    · refine List.Pairwise.cons (fun b hb => ?_) (List.pairwise_singleton ..)
      rw [List.mem_singleton] at hb
      subst hb
      exact nm_sort_ne (n := 0) (k := 0) sW_i sW_f (by decide)
    · obtain ⟨i, p, _, rfl⟩ := obPages_mem ha
      simp only [List.mem_cons, List.not_mem_nil, or_false] at hb
      rcases hb with rfl | rfl
      · exact nm_p_ne (n := 0) sW_i
      · exact nm_p_ne (n := 0) sW_f
  · rw [List.mem_singleton] at hb
    subst hb
    exact bkFore_ne a ha

end Go.Proofs.YtfaefacefdkjdaaGreatDoor

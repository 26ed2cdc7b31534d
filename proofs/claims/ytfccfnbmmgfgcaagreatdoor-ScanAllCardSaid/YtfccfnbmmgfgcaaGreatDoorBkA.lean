/-
  A BLOCK, plain: which sizes may be ('szB'), of what a block may be made ('BkOk'), its meta ('bkMe'), what is put of it ('bkObs'). No condition but what each theorem says.
  OBJECTS PUT ONE BEHIND THE OTHER, plain: 'wrL' (up to the first that fails); what is there then; a store's objects put anew, by rising names. No condition but what each theorem says.
-/
import Derived.Test.YtfccfnbmmgfgcaaGreatDoorPgH
import Derived.Test.YtfccfnbmmgfgcaaGreatDoorIxF
import Derived.Test.YtfccfnbmmgfgcaaGreatDoorBlJ
import Derived.Test.YtfccfnbmmgfgcaaGreatDoorMtL
import Derived.Test.YtfccfnbmmgfgcaaGreatDoorStA
import Derived.Lib.MinMax
namespace Go.Proofs.YtfccfnbmmgfgcaaGreatDoor
open Go.RowKit
set_option maxRecDepth 100000

structure Sz where
  pg : Int
  sh : Int
  bi : Int
  hs : Int
structure Sz.ok (s : Sz) : Prop where
  p0 : -9223372036854775808 ≤ s.pg
  p1 : s.pg ≤ 9223372036854775807
  s0 : -9223372036854775808 ≤ s.sh
  s1 : s.sh ≤ 9223372036854775807
  b0 : -9223372036854775808 ≤ s.bi
  b1 : s.bi ≤ 9223372036854775807
  h0 : -9223372036854775808 ≤ s.hs
  h1 : s.hs ≤ 9223372036854775807
def szV (s : Sz) : Value := .agg #[.int .i64 s.pg, .int .i64 s.sh, .int .i64 s.bi, .int .i64 s.hs]
def szB (s : Sz) : Bool := rightI s.sh s.bi s.hs && (decide (64 ≤ s.pg) && decide (s.pg ≤ 8192))
theorem szB_iff {s : Sz} : szB s = true ↔ rightI s.sh s.bi s.hs = true ∧ 64 ≤ s.pg ∧ s.pg ≤ 8192 := by
  simp [szB, Bool.and_eq_true]

def stF (a : Int) (l : List Sn) : Int := l.foldl (fun a s => min a s.st) a
def enF (a : Int) (l : List Sn) : Int := l.foldl (fun a s => max a s.en) a
theorem stF_snoc (a : Int) (l : List Sn) (s : Sn) : stF a (l ++ [s]) = min (stF a l) s.st := by simp [stF]
theorem enF_snoc (a : Int) (l : List Sn) (s : Sn) : enF a (l ++ [s]) = max (enF a l) s.en := by simp [enF]
theorem stF_le : ∀ (l : List Sn) (a : Int), stF a l ≤ a
  | [], a => Int.le_refl _
  | s :: l, a => by
    have := stF_le l (min a s.st)
    rw [stF, List.foldl_cons]
    rw [stF] at this
    omega
theorem enF_ge : ∀ (l : List Sn) (a : Int), a ≤ enF a l
  | [], a => Int.le_refl _
  | s :: l, a => by
    have := enF_ge l (max a s.en)
    rw [enF, List.foldl_cons]
    rw [enF] at this
    omega
theorem stF_lo {b : Int} : ∀ (l : List Sn) (a : Int), b ≤ a → (∀ s ∈ l, b ≤ s.st) → b ≤ stF a l
  | [], a, h, _ => h
  | s :: l, a, h, hs => by
    have h1 := hs s (List.mem_cons_self ..)
    have := stF_lo l (min a s.st) (by omega) fun x hx => hs x (List.mem_cons_of_mem _ hx)
    rw [stF, List.foldl_cons]
    exact this
theorem enF_hi {b : Int} : ∀ (l : List Sn) (a : Int), a ≤ b → (∀ s ∈ l, s.en ≤ b) → enF a l ≤ b
  | [], a, h, _ => h
  | s :: l, a, h, hs => by
    have h1 := hs s (List.mem_cons_self ..)
    have := enF_hi l (max a s.en) (by omega) fun x hx => hs x (List.mem_cons_of_mem _ hx)
    rw [enF, List.foldl_cons]
    exact this
def stM : List Sn → Int
  | [] => 0
  | x :: l => stF x.st (x :: l)
def enM : List Sn → Int
  | [] => 0
  | x :: l => enF x.en (x :: l)

def pagesOf (l : List Tn) (s : Sz) : List (List Tn) := cutL s.pg l.length l
def bkMe (id : Nat) (lv : Int) (l : List Tn) (s : Sz) : Me := ⟨id, lv, stM (flatT l), enM (flatT l), ((pagesOf l s).length : Nat), (l.length : Nat)⟩
structure BkOk (id : Nat) (lv : Int) (l : List Tn) (s : Sz) : Prop where
  sz : szB s = true
  ne : l ≠ []
  is : IsT l
  id0 : id ≠ 0
  lv0 : 0 ≤ lv
  lv1 : lv ≤ 10

theorem isT_span {l : List Tn} (h : IsT l) : ∀ s ∈ flatT l, 0 ≤ s.st ∧ s.st ≤ s.en ∧ s.en ≤ 1099511627776 := by
  intro s hs
  obtain ⟨t, ht, hst⟩ := List.mem_flatMap.1 hs
  obtain ⟨k, hk⟩ := List.getElem?_of_mem ht
  obtain ⟨j, hj⟩ := List.getElem?_of_mem hst
  have := ((h.each k t hk).one j s hj).2
  simp only [mayB, Bool.and_eq_true, decide_eq_true_iff] at this
  omega
theorem isT_tr {l : List Tn} (h : IsT l) {t : Tn} (ht : t ∈ l) : ∀ s ∈ t.sp, s.tr = t.id := by
  intro s hs
  obtain ⟨k, hk⟩ := List.getElem?_of_mem ht
  obtain ⟨j, hj⟩ := List.getElem?_of_mem hs
  exact ((h.each k t hk).one j s hj).1
theorem isT_first {l : List Tn} (h : IsT l) (hl : l ≠ []) : ∃ t0 l' x0 r, l = t0 :: l' ∧ t0.sp = x0 :: r ∧ flatT l = x0 :: (r ++ flatT l') := by
  cases l with
  | nil => exact absurd rfl hl
  | cons t0 l' =>
    have h1 := (h.each 0 t0 rfl).lo
    cases hs : t0.sp with
    | nil => rw [hs] at h1; simp at h1
    | cons x0 r => exact ⟨t0, l', x0, r, rfl, hs, by simp [flatT, hs]⟩

theorem pages_flat (l : List Tn) (s : Sz) : (pagesOf l s).flatten = l := cutL_flat s.pg l.length l (Nat.le_refl _)
theorem pages_len (l : List Tn) (s : Sz) : (pagesOf l s).length ≤ l.length := cutL_len s.pg l.length l
theorem len_flat_le {α : Type} (n : Nat) : ∀ L : List (List α), (∀ p ∈ L, p.length ≤ n) → L.flatten.length ≤ n * L.length
  | [], _ => by simp
  | p :: L, h => by
    have h1 := h p (List.mem_cons_self ..)
    have h2 := len_flat_le n L fun q hq => h q (List.mem_cons_of_mem _ hq)
    rw [List.flatten_cons, List.length_append, List.length_cons, Nat.mul_succ]
    omega
theorem pages_most {l : List Tn} (h : IsT l) (s : Sz) : l.length ≤ 64 * (pagesOf l s).length := by
  have := len_flat_le 64 (pagesOf l s) fun p hp => (cutL_parts s.pg l.length l h p hp).2.1
  rwa [pages_flat] at this
theorem pages_some {l : List Tn} (hl : l ≠ []) (s : Sz) : 1 ≤ (pagesOf l s).length := by
  cases hp : pagesOf l s with
  | nil =>
    have := pages_flat l s
    rw [hp] at this
    exact absurd this.symm hl
  | cons p q => simp
theorem pages_pgB {l : List Tn} (h : IsT l) (s : Sz) : ∀ p ∈ pagesOf l s, pgB p = true := fun p hp => by
  obtain ⟨_, h2, h3, _⟩ := cutL_parts s.pg l.length l h p hp
  exact pgB_iff.2 ⟨h2, h3⟩
theorem pages_ok {l : List Tn} (h : IsT l) (s : Sz) (hp : (pagesOf l s).length ≤ 200) : pagesB (pagesOf l s) = true := by
  rw [pagesB, pages_flat, isB_true h, decide_eq_true hp, Bool.true_and, Bool.true_and, List.all_eq_true]
  intro p hp
  have := (cutL_parts s.pg l.length l h p hp).1
  exact decide_eq_true (by omega)

theorem bkMe_ok {id : Nat} {lv : Int} {l : List Tn} {s : Sz} (h : BkOk id lv l s) (hid : id < 18446744073709551616) (hp : (pagesOf l s).length ≤ 200) (hl : l.length ≤ 1000000) : meB (bkMe id lv l s) = true ∧ (bkMe id lv l s).ok := by
  obtain ⟨t0, l', x0, r, hl0, hs0, hf⟩ := isT_first h.is h.ne
  have hsp := isT_span h.is
  have h0 := hsp x0 (by rw [hf]; exact List.mem_cons_self ..)
  have e1 : stM (flatT l) = stF x0.st (flatT l) := by rw [hf]; rfl
  have e2 : enM (flatT l) = enF x0.en (flatT l) := by rw [hf]; rfl
  have a1 := stF_le (flatT l) x0.st
  have a2 := enF_ge (flatT l) x0.en
  have a3 := stF_lo (b := 0) (flatT l) x0.st h0.1 fun s hs => (hsp s hs).1
  have a4 := enF_hi (b := 1099511627776) (flatT l) x0.en h0.2.2 fun s hs => (hsp s hs).2.2
  have b1 := pages_most h.is s
  have b2 := pages_some h.ne s
  have b3 := pages_len l s
  have := h.id0
  have := h.lv0
  have := h.lv1
  refine ⟨decide_eq_true ?_, ?_⟩
  · show 1 ≤ (id : Int) ∧ 0 ≤ lv ∧ lv ≤ 10 ∧ 0 ≤ stM (flatT l) ∧ stM (flatT l) ≤ enM (flatT l) ∧ enM (flatT l) ≤ 1099511627776 ∧ 1 ≤ (((pagesOf l s).length : Nat) : Int) ∧ (((pagesOf l s).length : Nat) : Int) ≤ 200 ∧ (((pagesOf l s).length : Nat) : Int) ≤ ((l.length : Nat) : Int) ∧ ((l.length : Nat) : Int) ≤ 64 * (((pagesOf l s).length : Nat) : Int)
    rw [e1, e2]
    refine ⟨by omega, by omega, by omega, a3, by omega, a4, by omega, by omega, by omega, by omega⟩
  · refine ⟨?_, ?_, ?_, ?_, ?_, ?_, ?_, ?_, ?_, ?_, ?_, ?_⟩ <;> simp only [bkMe, e1, e2] <;> omega

def obPg (id : Nat) (p : List Tn) (i : Nat) : Ob := ⟨nmOf id [112] (i : Int), pgOf p⟩
def obPages (id : Nat) (ps : List (List Tn)) : List Ob := ps.zipIdx.map fun x => obPg id x.1 x.2
theorem obPages_length (id : Nat) (ps : List (List Tn)) : (obPages id ps).length = ps.length := by simp [obPages]
theorem obPages_snoc (id : Nat) (ps : List (List Tn)) (p : List Tn) : obPages id (ps ++ [p]) = obPages id ps ++ [obPg id p ps.length] := by simp [obPages, List.zipIdx_append]
def bkIx (ps : List (List Tn)) : List UInt8 := sealedOf (ixBytes (ps.map firstId))
def bkFl (l : List Tn) (s : Sz) : Bl := (Bl.new s.sh.toNat s.bi.toNat s.hs.toNat).adds (l.map fun t => t.id.toNat)
def bkObs (id : Nat) (lv : Int) (l : List Tn) (s : Sz) : List Ob :=
  obPages id (pagesOf l s) ++ [⟨nmOf id [105] 0, bkIx (pagesOf l s)⟩, ⟨nmOf id [102] 0, (bkFl l s).bytes⟩, ⟨nmOf id [109] 0, sealedOf (meRaw (bkMe id lv l s))⟩]
theorem bkObs_length (id : Nat) (lv : Int) (l : List Tn) (s : Sz) : (bkObs id lv l s).length = (pagesOf l s).length + 3 := by simp [bkObs, obPages_length]

theorem orBit_same (x : UInt8) (i : Nat) (hi : i < 8) (h : x.toNat.testBit i = true) : orBit x i = x := by
  have e := orBit_toNat x i hi
  have : x.toNat ||| 2 ^ i = x.toNat := by
    refine Nat.eq_of_testBit_eq fun j => ?_
    rw [Nat.testBit_or, Nat.testBit_two_pow]
    by_cases hj : i = j
    · subst hj; simp [h]
    · simp [hj]
  rw [this] at e
  exact UInt8.toNat_inj.1 e
theorem setBit_same (l : List UInt8) (p : Nat) (h : bitAt l p = true) : setBit l p = l := by
  rw [bitAt_test] at h
  rw [setBit, orBit_same _ _ (Nat.mod_lt _ (by omega)) h]
  refine List.ext_getElem? fun j => ?_
  rw [List.getElem?_set]
  by_cases hj : p / 8 = j
  · subst hj
    rw [if_pos rfl]
    by_cases hl : p / 8 < l.length
    · rw [if_pos hl, List.getD_eq_getElem?_getD, List.getElem?_eq_getElem hl]
      rfl
    · rw [if_neg hl, List.getElem?_eq_none (by omega)]
  · rw [if_neg hj]
theorem Bl.addK_same (b : Bl) (id : Nat) : ∀ k, (∀ i, i < k → bitAt b.set (b.place id i) = true) → b.addK id k = b.set
  | 0, _ => rfl
  | k + 1, h => by
    have ih := Bl.addK_same b id k fun i hi => h i (by omega)
    show setBit (b.addK id k) (b.place id k) = b.set
    rw [ih]
    exact setBit_same _ _ (h k (Nat.lt_succ_self k))
theorem Bl.add_same (b : Bl) (id : Nat) (h : b.has id = true) : b.add id = b := by
  have := Bl.addK_same b id b.hs ((Bl.hasK_iff b id b.hs).1 h)
  rw [Bl.add, this]
theorem Bl.Ok.adds_reps {b : Bl} (h : b.Ok) (id : Nat) : ∀ l : List Nat, l ≠ [] → (∀ x ∈ l, x = id) → b.adds l = b.add id
  | [], hl, _ => absurd rfl hl
  | [x], _, hx => by
    rw [hx x (List.mem_cons_self ..)]
    rfl
  | x :: y :: l, _, hx => by
    have e1 := hx x (List.mem_cons_self ..)
    subst e1
    have h1 := Bl.Ok.adds_reps (h.add x) x (y :: l) (by simp) fun z hz => hx z (List.mem_cons_of_mem _ hz)
    show (b.add x).adds (y :: l) = b.add x
    rw [h1]
    exact Bl.add_same _ _ (h.has_add x)
theorem Bl.adds_append (b : Bl) (l m : List Nat) : b.adds (l ++ m) = (b.adds l).adds m := by simp [Bl.adds]
theorem Bl.Ok.adds_flat {b : Bl} (h : b.Ok) : ∀ l : List Tn, (∀ t ∈ l, t.sp ≠ [] ∧ ∀ s ∈ t.sp, s.tr = t.id) → b.adds ((flatT l).map fun s => s.tr.toNat) = b.adds (l.map fun t => t.id.toNat)
  | [], _ => rfl
  | t :: l, hl => by
    obtain ⟨h1, h2⟩ := hl t (List.mem_cons_self ..)
    have e : flatT (t :: l) = t.sp ++ flatT l := by simp [flatT]
    rw [e, List.map_append, Bl.adds_append, h.adds_reps t.id.toNat _ (by simpa using h1) (fun x hx => by
      obtain ⟨s, hs, rfl⟩ := List.mem_map.1 hx
      rw [h2 s hs])]
    exact Bl.Ok.adds_flat (h.add _) l fun u hu => hl u (List.mem_cons_of_mem _ hu)
theorem bkFl_flat {l : List Tn} {s : Sz} (hs : szB s = true) (h : IsT l) : (Bl.new s.sh.toNat s.bi.toNat s.hs.toNat).adds ((flatT l).map fun s => s.tr.toNat) = bkFl l s := by
  obtain ⟨hr, _, _⟩ := szB_iff.1 hs
  obtain ⟨h1, h2, h3, h4, h5, h6, h7⟩ := rightI_iff.1 hr
  refine Bl.Ok.adds_flat (Bl.new_ok ?_) l fun t ht => ⟨fun e => ?_, isT_tr h ht⟩
  · refine rightI_iff.2 ⟨?_, ?_, ?_, ?_, ?_, ?_, ?_⟩ <;> omega
  · obtain ⟨k, hk⟩ := List.getElem?_of_mem ht
    have := (h.each k t hk).lo
    rw [e] at this
    simp at this

def wrL (m : Sm) : List Ob → Sm × Int
  | [] => (m, 0)
  | o :: os => if (sPut m o.nm o.b).2 = 0 then wrL (sPut m o.nm o.b).1 os else sPut m o.nm o.b
theorem wrL_ok {m : Sm} {o : Ob} {os : List Ob} (h : (sPut m o.nm o.b).2 = 0) : wrL m (o :: os) = wrL (sPut m o.nm o.b).1 os := by rw [wrL, if_pos h]
theorem wrL_no {m : Sm} {o : Ob} {os : List Ob} (h : (sPut m o.nm o.b).2 ≠ 0) : wrL m (o :: os) = sPut m o.nm o.b := by rw [wrL, if_neg h]
theorem sPut_left {m : Sm} {n b : List UInt8} (h : (sPut m n b).2 ≠ 0) : (sPut m n b).1.l = m.l := by
  unfold sPut at h ⊢
  repeat' split
  all_goals first | rfl | (rename_i h1 h2 h3 h4; simp [h1, h2, h3, h4] at h)
theorem sPut_room (m : Sm) (n b : List UInt8) : (sPut m n b).1.room = m.room := by
  unfold sPut callS
  repeat' split
  all_goals rfl
theorem wrL_fine : ∀ (os : List Ob) (m : Sm) (N : Nat), m.fine N → (wrL m os).1.fine (N + os.length)
  | [], m, N, h => h
  | o :: os, m, N, h => by
    rw [wrL]
    have h1 := h.put o.nm o.b
    split
    · have := wrL_fine os _ _ h1
      rw [List.length_cons]
      exact this.more (by omega)
    · exact h1.more (by simp)
structure Kept (m : Sm) : Prop where
  rise : Rise m.l
  named : ∀ o ∈ m.l, nameB o.nm = true
  fits : (usedL m.l : Int) ≤ m.room
theorem sPut_zero {m : Sm} {n b : List UInt8} (h : (sPut m n b).2 = 0) : callB m = true ∧ nameB n = true ∧ ¬ restU m n + b.length > m.room := by
  cases h1 : callB m with
  | false => rw [sPut_e8 h1] at h; simp at h
  | true =>
    cases h2 : nameB n with
    | false => rw [sPut_e1 h1 h2] at h; simp at h
    | true =>
      refine ⟨rfl, rfl, fun h3 => ?_⟩
      rw [sPut_e6 h1 h2 h3] at h
      simp at h
theorem Kept.put {m : Sm} (h : Kept m) (n b : List UInt8) : Kept (sPut m n b).1 := by
  by_cases h0 : (sPut m n b).2 = 0
  · obtain ⟨h1, h2, h3⟩ := sPut_zero h0
    obtain ⟨l', e, hr, hu, hf, ho⟩ := sPut_ok h1 h2 h3 h.rise
    rw [e]
    refine ⟨hr, fun o hm => ?_, ?_⟩
    · have hfo := fnd_of_mem hr hm
      by_cases hn : o.nm = n
      · rw [hn]; exact h2
      · rw [ho o.nm hn] at hfo
        exact h.named o (fnd_some_mem hfo)
    · show (usedL l' : Int) ≤ m.room
      rw [hu]
      omega
  · have e := sPut_left h0
    have e2 := sPut_room m n b
    exact ⟨by rw [e]; exact h.rise, by rw [e]; exact h.named, by rw [e, e2]; exact h.fits⟩
theorem Kept.wr : ∀ (os : List Ob) (m : Sm), Kept m → Kept (wrL m os).1
  | [], m, h => h
  | o :: os, m, h => by
    rw [wrL]
    split
    · exact Kept.wr os _ (h.put _ _)
    · exact h.put _ _
theorem obPages_mem {id : Nat} {ps : List (List Tn)} {o : Ob} (h : o ∈ obPages id ps) : ∃ (i : Nat) (p : List Tn), ps[i]? = some p ∧ o = obPg id p i := by
  obtain ⟨⟨p, i⟩, hx, rfl⟩ := List.mem_map.1 h
  exact ⟨i, p, by simpa using List.mem_zipIdx_iff_getElem?.1 hx, rfl⟩
theorem sW_m : sortW [109] := .inl rfl
theorem sW_i : sortW [105] := .inr (.inl rfl)
theorem sW_f : sortW [102] := .inr (.inr (.inl rfl))
end Go.Proofs.YtfccfnbmmgfgcaaGreatDoor

/-
  GATHERING, as plain lists: which spans count, gathered lists, traces' groups. No condition but what each theorem says.
-/
import Derived.Test.YtgafidnbmoomiaaGreatDoorSpanB
import Derived.Lib.Bytealg
namespace Go.Proofs.YtgafidnbmoomiaaGreatDoor
open Go.RowKit

structure Three {α : Type} (c : α → α → Int) : Prop where
  anti : ∀ a b, c a b < 0 ↔ 0 < c b a
  tr : ∀ a b d, c a b ≤ 0 → c b d ≤ 0 → c a d ≤ 0

def lexC {α : Type} (c d : α → α → Int) (a b : α) : Int := if c a b ≠ 0 then c a b else d a b

section
variable {α : Type} {c d : α → α → Int}
theorem Three.rf (h : Three c) (a : α) : c a a = 0 := by
  have := h.anti a a
  omega

theorem Three.zero (h : Three c) {a b : α} (hz : c a b = 0) : c b a = 0 := by
  have h1 := h.anti a b
  have h2 := h.anti b a
  omega

theorem Three.le_of_not (h : Three c) {a b : α} (hn : ¬ c a b < 0) : c b a ≤ 0 := by
  have h1 := h.anti a b
  omega

theorem Three.lt_le (h : Three c) {a b e : α} (h1 : c a b < 0) (h2 : c b e ≤ 0) : c a e < 0 := by
  rcases Int.lt_or_le (c a e) 0 with h3 | h3
  · exact h3
  · have h4 : c e a ≤ 0 := h.le_of_not (by omega)
    have h5 := h.tr _ _ _ h2 h4
    have h6 := (h.anti a b).1 h1
    omega

theorem Three.le_lt (h : Three c) {a b e : α} (h1 : c a b ≤ 0) (h2 : c b e < 0) : c a e < 0 := by
  rcases Int.lt_or_le (c a e) 0 with h3 | h3
  · exact h3
  · have h4 : c e a ≤ 0 := h.le_of_not (by omega)
    have h5 := h.tr _ _ _ h4 h1
    have h6 := (h.anti b e).1 h2
    omega

theorem Three.lex (hc : Three c) (hd : Three d) : Three (lexC c d) := by
  refine ⟨fun a b => ?_, fun a b e h1 h2 => ?_⟩
  · have h1 := hc.anti a b
    have h2 := hc.anti b a
    have h3 := hd.anti a b
    unfold lexC
    split <;> split <;> omega
  · unfold lexC at *
    split at h1
    · split at h2
      · have h3 := hc.tr _ _ _ h1 h2
        have h4 := hc.lt_le (a := a) (b := b) (e := e) (by omega) h2
        rw [if_pos (by omega)]
        omega
      · rename_i h5 h6
        have h4 := hc.lt_le (a := a) (b := b) (e := e) (by omega) (by omega)
        rw [if_pos (by omega)]
        omega
    · split at h2
      · rename_i h5 h6
        have h4 := hc.le_lt (a := a) (b := b) (e := e) (by omega) (by omega)
        rw [if_pos (by omega)]
        omega
      · rename_i h5 h6
        have h3 := hc.tr a b e (by omega) (by omega)
        have h7 := hc.tr e b a (by have := hc.zero (a := b) (b := e) (by omega); omega) (by have := hc.zero (a := a) (b := b) (by omega); omega)
        have h8 := hc.anti a e
        have h9 := hc.anti e a
        rw [if_neg (by omega)]
        exact hd.tr _ _ _ h1 h2

theorem Three.on {β : Type} (h : Three c) (f : β → α) : Three fun a b => c (f a) (f b) := ⟨fun _ _ => h.anti _ _, fun _ _ _ => h.tr _ _ _⟩

end

theorem three_cmpI : Three cmpI := by
  refine ⟨fun a b => ?_, fun a b d => ?_⟩
  · unfold cmpI
    repeat' split
    all_goals omega
  · unfold cmpI
    repeat' split
    all_goals omega

theorem bytes_lt : ∀ (l m : List UInt8), Lib.compareBytes l m < 0 ↔ l < m
  | [], [] => by simp [Lib.compareBytes]
  | [], _ :: _ => by simp [Lib.compareBytes]
  | _ :: _, [] => by simp [Lib.compareBytes]
  | a :: al, b :: bs => by
    have ih := bytes_lt al bs
    unfold Lib.compareBytes
    rw [List.cons_lt_cons_iff]
    by_cases h1 : a < b
    · simp [h1]
    · by_cases h2 : b < a
      · have h3 : a ≠ b := fun e => h1 (e ▸ (e ▸ h2))
        simp [h1, h2, h3]
      · have h3 : a = b := UInt8.le_antisymm (UInt8.not_lt.1 h2) (UInt8.not_lt.1 h1)
        subst h3
        simp [h1, ih]

theorem bytes_zero : ∀ (l m : List UInt8), Lib.compareBytes l m = 0 ↔ l = m
  | [], [] => by simp [Lib.compareBytes]
  | [], _ :: _ => by simp [Lib.compareBytes]
  | _ :: _, [] => by simp [Lib.compareBytes]
  | a :: al, b :: bs => by
    have ih := bytes_zero al bs
    unfold Lib.compareBytes
    by_cases h1 : a < b
    · have h3 : a ≠ b := fun e => by subst e; exact UInt8.lt_irrefl _ h1
      simp [h1, h3]
    · by_cases h2 : b < a
      · have h3 : a ≠ b := fun e => by subst e; exact UInt8.lt_irrefl _ h2
        simp [h1, h2, h3]
      · have h3 : a = b := UInt8.le_antisymm (UInt8.not_lt.1 h2) (UInt8.not_lt.1 h1)
        subst h3
        simp [h1, ih]

theorem bytes_anti : ∀ (l m : List UInt8), Lib.compareBytes l m < 0 ↔ 0 < Lib.compareBytes m l
  | [], [] => by simp [Lib.compareBytes]
  | [], _ :: _ => by simp [Lib.compareBytes]
  | _ :: _, [] => by simp [Lib.compareBytes]
  | a :: al, b :: bs => by
    have ih := bytes_anti al bs
    unfold Lib.compareBytes
    by_cases h1 : a < b
    · have h2 : ¬ b < a := fun h => UInt8.lt_irrefl _ (UInt8.lt_trans h h1)
      simp [h1, h2]
    · by_cases h2 : b < a
      · simp [h1, h2]
      · simp [h1, h2, ih]

theorem three_bytes : Three Lib.compareBytes := by
  refine ⟨bytes_anti, fun a b d h1 h2 => ?_⟩
  have e1 := bytes_lt a b
  have e2 := bytes_lt b d
  have e3 := bytes_lt a d
  have z1 := bytes_zero a b
  have z2 := bytes_zero b d
  have z3 := bytes_zero a d
  rcases Int.lt_or_le (Lib.compareBytes a b) 0 with h3 | h3
  · rcases Int.lt_or_le (Lib.compareBytes b d) 0 with h4 | h4
    · have := e3.2 (List.lt_trans (e1.1 h3) (e2.1 h4))
      omega
    · obtain rfl : b = d := z2.1 (by omega)
      omega
  · obtain rfl : a = b := z1.1 (by omega)
    omega

def keyB (a b : Sn) : Bool := decide (a.tr = b.tr) && decide (a.id = b.id)

theorem key_iff {a b : Sn} : keyB a b = true ↔ a.tr = b.tr ∧ a.id = b.id := by simp [keyB]

def cmpL : Sn → Sn → Int := lexC (fun a b => cmpI a.st b.st) (lexC (fun a b => cmpI a.en b.en) fun a b => Lib.compareBytes a.data b.data)

def lessB (a b : Sn) : Bool := if a.st ≠ b.st then decide (a.st < b.st) else if a.en ≠ b.en then decide (a.en < b.en) else decide (Lib.compareBytes a.data b.data < 0)

theorem three_cmpL : Three cmpL := (three_cmpI.on fun s : Sn => s.st).lex ((three_cmpI.on fun s : Sn => s.en).lex (three_bytes.on fun s : Sn => s.data))

theorem cmpI_lt (a b : Int) : cmpI a b < 0 ↔ a < b := by
  unfold cmpI
  repeat' split
  all_goals omega

theorem less_iff (a b : Sn) : lessB a b = true ↔ cmpL a b < 0 := by
  have h1 := cmpI_zero a.st b.st
  have h2 := cmpI_zero a.en b.en
  have h3 := cmpI_lt a.st b.st
  have h4 := cmpI_lt a.en b.en
  simp only [lessB, cmpL, lexC]
  by_cases k1 : a.st = b.st
  · rw [if_neg (show ¬ a.st ≠ b.st by omega), if_neg (show ¬ cmpI a.st b.st ≠ 0 by omega)]
    by_cases k2 : a.en = b.en
    · rw [if_neg (show ¬ a.en ≠ b.en by omega), if_neg (show ¬ cmpI a.en b.en ≠ 0 by omega)]
      simp
    · rw [if_pos (show a.en ≠ b.en by omega), if_pos (show cmpI a.en b.en ≠ 0 by omega)]
      simp [h4]
  · rw [if_pos (show a.st ≠ b.st by omega), if_pos (show cmpI a.st b.st ≠ 0 by omega)]
    simp [h3]

theorem not_less_iff (a b : Sn) : lessB a b = false ↔ cmpL b a ≤ 0 := by
  have h1 := less_iff a b
  have h2 := three_cmpL.anti a b
  cases h : lessB a b <;> simp [h] at h1 ⊢ <;> omega

theorem cmpL_zero {a b : Sn} (hk : keyB a b = true) (h : cmpL a b = 0) : a = b := by
  obtain ⟨k1, k2⟩ := key_iff.1 hk
  have h1 := cmpI_zero a.st b.st
  have h2 := cmpI_zero a.en b.en
  have h3 := bytes_zero a.data b.data
  simp only [cmpL, lexC] at h
  split at h
  · omega
  · split at h
    · omega
    · obtain ⟨t, i, s, e, d⟩ := a
      obtain ⟨t', i', s', e', d'⟩ := b
      simp only at *
      have e1 := h1.1 (by omega)
      have e2 := h2.1 (by omega)
      have e3 := h3.1 (by omega)
      subst k1 k2 e1 e2 e3
      rfl

theorem key_symm {a b : Sn} (h : keyB a b = true) : keyB b a = true := by
  rw [key_iff] at *
  exact ⟨h.1.symm, h.2.symm⟩

theorem key_trans {a b e : Sn} (h : keyB a b = true) (h' : keyB b e = true) : keyB a e = true := by
  rw [key_iff] at *
  exact ⟨h.1.trans h'.1, h.2.trans h'.2⟩

theorem key_refl (a : Sn) : keyB a a = true := key_iff.2 ⟨rfl, rfl⟩

theorem three_cmpS : Three cmpS := (three_cmpI.on fun s : Sn => s.st).lex ((three_cmpI.on fun s : Sn => s.id).lex (three_cmpI.on fun s : Sn => s.tr))

theorem cmpS_key {a b : Sn} (h : cmpS a b = 0) : keyB a b = true := by
  obtain ⟨_, h2, h3⟩ := (cmpS_zero a b).1 h
  exact key_iff.2 ⟨h3, h2⟩

def cmpW : Sn → Sn → Int := lexC (fun a b => cmpI a.tr b.tr) (lexC (fun a b => cmpI a.id b.id) cmpL)

theorem three_cmpW : Three cmpW := (three_cmpI.on fun s : Sn => s.tr).lex ((three_cmpI.on fun s : Sn => s.id).lex three_cmpL)

theorem cmpW_key {a b : Sn} (h : keyB a b = true) : cmpW a b = cmpL a b := by
  obtain ⟨k1, k2⟩ := key_iff.1 h
  have h1 := (cmpI_zero a.tr b.tr).2 k1
  have h2 := (cmpI_zero a.id b.id).2 k2
  simp only [cmpW, lexC]
  rw [if_neg (by omega), if_neg (by omega)]

theorem cmpW_between {a b e : Sn} (h1 : cmpW a b ≤ 0) (h2 : cmpW b e ≤ 0) (hk : keyB a e = true) : keyB a b = true := by
  obtain ⟨k1, k2⟩ := key_iff.1 hk
  have a1 := cmpI_zero a.tr b.tr
  have a2 := cmpI_zero b.tr e.tr
  have a3 := cmpI_lt a.tr b.tr
  have a4 := cmpI_lt b.tr e.tr
  have b1 := cmpI_zero a.id b.id
  have b2 := cmpI_zero b.id e.id
  have b3 := cmpI_lt a.id b.id
  have b4 := cmpI_lt b.id e.id
  simp only [cmpW, lexC] at h1 h2
  rw [key_iff]
  split at h1 <;> split at h2
  · omega
  · omega
  · omega
  · split at h1 <;> split at h2 <;> omega

def Cnt (l : List Sn) (s : Sn) : Prop := s ∈ l ∧ ∀ t ∈ l, keyB t s = true → lessB t s = false

theorem Cnt.congr {l m : List Sn} (h : ∀ s, s ∈ l ↔ s ∈ m) (s : Sn) : Cnt l s ↔ Cnt m s :=
  ⟨fun hc => ⟨(h s).1 hc.1, fun t ht => hc.2 t ((h t).2 ht)⟩, fun hc => ⟨(h s).2 hc.1, fun t ht => hc.2 t ((h t).1 ht)⟩⟩

theorem Cnt.eq {l : List Sn} {s t : Sn} (hs : Cnt l s) (ht : Cnt l t) (hk : keyB s t = true) : s = t := by
  have h1 := (not_less_iff _ _).1 (hs.2 t ht.1 (key_symm hk))
  have h2 := (not_less_iff _ _).1 (ht.2 s hs.1 hk)
  have h3 := three_cmpL.anti s t
  have h4 := three_cmpL.anti t s
  exact cmpL_zero hk (by omega)

theorem Cnt.least {l : List Sn} : ∀ {s : Sn}, s ∈ l → ∃ t, Cnt l t ∧ keyB t s = true ∧ lessB s t = false := by
  induction l with
  | nil => intro s hs; cases hs
  | cons x l ih =>
    intro s hs
    -- a least one of x's key
    have step : ∀ u, u ∈ x :: l → (∃ t, t ∈ x :: l ∧ keyB t u = true ∧ ∀ y ∈ l, keyB y t = true → lessB y t = false) → ∃ t, Cnt (x :: l) t ∧ keyB t u = true := by
      rintro u hu ⟨t, ht, hk, hy⟩
      by_cases hxt : keyB x t = true
      · cases hl : lessB x t with
        | false =>
          refine ⟨t, ⟨ht, fun y hy' hky => ?_⟩, hk⟩
          rcases List.mem_cons.1 hy' with rfl | hy'
          · exact hl
          · exact hy y hy' hky
        | true =>
          refine ⟨x, ⟨List.mem_cons_self .., fun y hy' hky => ?_⟩, key_trans hxt hk⟩
          rcases List.mem_cons.1 hy' with rfl | hy'
          · rw [not_less_iff]; rw [three_cmpL.rf]; omega
          · have h1 := (not_less_iff _ _).1 (hy y hy' (key_trans hky hxt))
            have h2 := (less_iff _ _).1 hl
            rw [not_less_iff]
            have := three_cmpL.lt_le h2 h1
            omega
      · refine ⟨t, ⟨ht, fun y hy' hky => ?_⟩, hk⟩
        rcases List.mem_cons.1 hy' with rfl | hy'
        · exact absurd hky hxt
        · exact hy y hy' hky
    have key : ∃ t, Cnt (x :: l) t ∧ keyB t s = true := by
      by_cases hl : ∃ u, u ∈ l ∧ keyB u s = true
      · obtain ⟨u, hu, hus⟩ := hl
        obtain ⟨t, ht, hk, _⟩ := ih hu
        exact step s hs ⟨t, List.mem_cons_of_mem _ ht.1, key_trans hk hus, fun y hy hky => ht.2 y hy hky⟩
      · have hsx : s = x := by
          rcases List.mem_cons.1 hs with h | h
          · exact h
          · exact absurd ⟨s, h, key_refl s⟩ hl
        exact step s hs ⟨s, hs, key_refl s, fun y hy hky => absurd ⟨y, hy, hky⟩ hl⟩
    obtain ⟨t, ht, hk⟩ := key
    exact ⟨t, ht, hk, ht.2 s hs (key_symm hk)⟩

structure Gat (l r : List Sn) : Prop where
  up : r.Pairwise fun a b => cmpS a b < 0
  mem : ∀ s, s ∈ r ↔ Cnt l s

theorem sorted_unique {α : Type} {R : α → α → Prop} (hR : ∀ a b, R a b → ¬ R b a) : ∀ {l m : List α}, l.Pairwise R → m.Pairwise R → (∀ x, x ∈ l ↔ x ∈ m) → l = m
  | [], [], _, _, _ => rfl
  | [], b :: m, _, _, h => by have := (h b).2 (List.mem_cons_self ..); cases this
  | a :: l, [], _, _, h => by have := (h a).1 (List.mem_cons_self ..); cases this
  | a :: l, b :: m, hl, hm, h => by
    rw [List.pairwise_cons] at hl hm
    have hab : a = b := by
      rcases List.mem_cons.1 ((h a).1 (List.mem_cons_self ..)) with e | h1
      · exact e
      · rcases List.mem_cons.1 ((h b).2 (List.mem_cons_self ..)) with e | h2
        · exact e.symm
        · exact absurd (hm.1 a h1) (hR _ _ (hl.1 b h2))
    subst hab
    congr 1
    refine sorted_unique hR hl.2 hm.2 fun x => ⟨fun hx => ?_, fun hx => ?_⟩
    · rcases List.mem_cons.1 ((h x).1 (List.mem_cons_of_mem _ hx)) with e | h1
      · subst e
        exact absurd (hl.1 x hx) (hR _ _ (hl.1 x hx))
      · exact h1
    · rcases List.mem_cons.1 ((h x).2 (List.mem_cons_of_mem _ hx)) with e | h1
      · subst e
        exact absurd (hm.1 x hx) (hR _ _ (hm.1 x hx))
      · exact h1

theorem cmpS_asymm (a b : Sn) (h : cmpS a b < 0) : ¬ cmpS b a < 0 := by
  have := three_cmpS.anti a b
  omega

theorem Gat.unique {l m r r' : List Sn} (h : Gat l r) (h' : Gat m r') (hc : ∀ s, Cnt l s ↔ Cnt m s) : r = r' :=
  sorted_unique cmpS_asymm h.up h'.up fun s => (h.mem s).trans ((hc s).trans (h'.mem s).symm)

theorem Gat.one {l r r' : List Sn} (h : Gat l r) (h' : Gat l r') : r = r' := h.unique h' fun _ => Iff.rfl

def ded : Sn → List Sn → List Sn
  | _, [] => []
  | p, x :: l => if keyB x p then ded x l else x :: ded x l

def dedL : List Sn → List Sn
  | [] => []
  | x :: l => x :: ded x l

theorem ded_mem : ∀ (p : Sn) (l : List Sn), (p :: l).Pairwise (fun a b => cmpW a b ≤ 0) → ∀ s, s ∈ ded p l ↔ s ∈ l ∧ keyB s p = false ∧ ∀ t ∈ l, keyB t s = true → lessB t s = false
  | p, [], _, s => by simp [ded]
  | p, x :: l, hp, s => by
    have hp' := hp
    rw [List.pairwise_cons] at hp
    obtain ⟨h1, h2⟩ := hp
    have ih := ded_mem x l h2 s
    rw [List.pairwise_cons] at h2
    unfold ded
    by_cases hk : keyB x p = true
    · rw [if_pos hk, ih]
      constructor
      · rintro ⟨hs, hn, ht⟩
        refine ⟨List.mem_cons_of_mem _ hs, ?_, ?_⟩
        · cases h : keyB s p with
          | false => rfl
          | true => rw [key_trans h (key_symm hk)] at hn; cases hn
        · intro t htm htk
          rcases List.mem_cons.1 htm with rfl | htm
          · rw [key_symm htk] at hn; cases hn
          · exact ht t htm htk
      · rintro ⟨hs, hn, ht⟩
        have hn' : keyB s x = false := by
          cases h : keyB s x with
          | false => rfl
          | true => rw [key_trans h hk] at hn; cases hn
        refine ⟨?_, hn', fun t htm => ht t (List.mem_cons_of_mem _ htm)⟩
        rcases List.mem_cons.1 hs with rfl | hs
        · rw [key_refl] at hn'; cases hn'
        · exact hs
    · rw [if_neg hk, List.mem_cons, ih]
      have hk' : keyB x p = false := by simpa using hk
      constructor
      · rintro (rfl | ⟨hs, hn, ht⟩)
        · refine ⟨List.mem_cons_self .., hk', ?_⟩
          intro t htm htk
          rw [not_less_iff, ← cmpW_key (key_symm htk)]
          rcases List.mem_cons.1 htm with rfl | htm
          · rw [three_cmpW.rf]; omega
          · exact h2.1 t htm
        · refine ⟨List.mem_cons_of_mem _ hs, ?_, ?_⟩
          · cases h : keyB s p with
            | false => rfl
            | true =>
              have h3 := cmpW_between (h1 x (List.mem_cons_self ..)) (h2.1 s hs) (key_symm h)
              rw [key_symm h3] at hk'
              cases hk'
          · intro t htm htk
            rcases List.mem_cons.1 htm with rfl | htm
            · rw [key_symm htk] at hn; cases hn
            · exact ht t htm htk
      · rintro ⟨hs, hn, ht⟩
        rcases List.mem_cons.1 hs with rfl | hs
        · exact .inl rfl
        · cases h : keyB s x with
          | true =>
            left
            have h3 := (not_less_iff _ _).1 (ht x (List.mem_cons_self ..) (key_symm h))
            have h4 := h2.1 s hs
            rw [cmpW_key (key_symm h)] at h4
            have h5 := three_cmpL.anti x s
            have h6 := three_cmpL.anti s x
            exact cmpL_zero h (by omega)
          | false => exact .inr ⟨hs, rfl, fun t htm => ht t (List.mem_cons_of_mem _ htm)⟩

theorem dedL_mem {l : List Sn} (h : l.Pairwise fun a b => cmpW a b ≤ 0) (s : Sn) : s ∈ dedL l ↔ Cnt l s := by
  cases l with
  | nil => simp [dedL, Cnt]
  | cons x l =>
    have hd := ded_mem x l h s
    rw [List.pairwise_cons] at h
    unfold dedL Cnt
    rw [List.mem_cons, hd]
    constructor
    · rintro (rfl | ⟨hs, hn, ht⟩)
      · refine ⟨List.mem_cons_self .., ?_⟩
        intro t htm htk
        rw [not_less_iff, ← cmpW_key (key_symm htk)]
        rcases List.mem_cons.1 htm with rfl | htm
        · rw [three_cmpW.rf]; omega
        · exact h.1 t htm
      · refine ⟨List.mem_cons_of_mem _ hs, ?_⟩
        intro t htm htk
        rcases List.mem_cons.1 htm with rfl | htm
        · rw [key_symm htk] at hn; cases hn
        · exact ht t htm htk
    · rintro ⟨hs, ht⟩
      rcases List.mem_cons.1 hs with rfl | hs
      · exact .inl rfl
      · cases hk : keyB s x with
        | true =>
          left
          have h3 := (not_less_iff _ _).1 (ht x (List.mem_cons_self ..) (key_symm hk))
          have h4 := h.1 s hs
          rw [cmpW_key (key_symm hk)] at h4
          have h5 := three_cmpL.anti x s
          have h6 := three_cmpL.anti s x
          exact cmpL_zero hk (by omega)
        | false => exact .inr ⟨hs, rfl, fun t htm => ht t (List.mem_cons_of_mem _ htm)⟩

theorem ded_sub : ∀ (p : Sn) (l : List Sn), (ded p l).Sublist l
  | _, [] => List.Sublist.slnil
  | p, x :: l => by
    unfold ded
    split
    · exact (ded_sub x l).cons x
    · exact (ded_sub x l).cons_cons x

theorem dedL_sub (l : List Sn) : (dedL l).Sublist l := by
  cases l with
  | nil => exact List.Sublist.slnil
  | cons x l => exact (ded_sub x l).cons_cons x

theorem ded_apart : ∀ (p : Sn) (l : List Sn), (p :: l).Pairwise (fun a b => cmpW a b ≤ 0) → (p :: ded p l).Pairwise fun a b => keyB a b = false
  | p, [], _ => by simp [ded]
  | p, x :: l, hp => by
    have hm := ded_mem p (x :: l) hp
    rw [List.pairwise_cons]
    refine ⟨fun s hs => ?_, ?_⟩
    · have := ((hm s).1 hs).2.1
      cases h : keyB p s with
      | false => rfl
      | true => rw [key_symm h] at this; cases this
    · rw [List.pairwise_cons] at hp
      have ih := ded_apart x l hp.2
      unfold ded
      split
      · exact (List.pairwise_cons.1 ih).2
      · exact ih

theorem dedL_apart {l : List Sn} (h : l.Pairwise fun a b => cmpW a b ≤ 0) : (dedL l).Pairwise fun a b => keyB a b = false := by
  cases l with
  | nil => exact List.Pairwise.nil
  | cons x l => exact ded_apart x l h

theorem take_snoc_at {α : Type} {l : List α} {k : Nat} {s : α} (h : l[k]? = some s) : l.take (k + 1) = l.take k ++ [s] := by
  obtain ⟨hk, rfl⟩ := List.getElem?_eq_some_iff.1 h
  exact List.take_succ_eq_append_getElem hk

theorem Gat.made {l d r : List Sn} (h1 : d.Perm l) (h2 : d.Pairwise fun a b => cmpW a b ≤ 0) (h3 : r.Perm (dedL d)) (h4 : r.Pairwise fun a b => cmpS a b ≤ 0) : Gat l r := by
  refine ⟨?_, fun s => ?_⟩
  · have ha : r.Pairwise fun a b => keyB a b = false := by
      refine (List.Perm.pairwise_iff (fun {x y} h => ?_) h3).2 (dedL_apart h2)
      cases hk : keyB y x with
      | false => rfl
      | true => rw [key_symm hk] at h; cases h
    have hb := h4.and ha
    refine hb.imp ?_
    rintro a b ⟨ha, hb⟩
    rcases Int.lt_or_le (cmpS a b) 0 with h | h
    · exact h
    · have := cmpS_key (a := a) (b := b) (by omega)
      rw [hb] at this
      cases this
  · rw [h3.mem_iff, dedL_mem h2]
    exact Cnt.congr (fun s => h1.mem_iff) s

theorem Gat.of {l r : List Sn} (h : Gat l r) (i : Int) : Gat (l.filter fun s => decide (s.tr = i)) (r.filter fun s => decide (s.tr = i)) := by
  refine ⟨h.up.sublist List.filter_sublist, fun s => ?_⟩
  simp only [List.mem_filter, decide_eq_true_iff, h.mem, Cnt]
  constructor
  · rintro ⟨⟨h1, h2⟩, h3⟩
    exact ⟨⟨h1, h3⟩, fun t ht htk => h2 t ht.1 htk⟩
  · rintro ⟨⟨h1, h3⟩, h2⟩
    exact ⟨⟨h1, fun t ht htk => h2 t ⟨ht, ((key_iff.1 htk).1).trans h3⟩ htk⟩, h3⟩

end Go.Proofs.YtgafidnbmoomiaaGreatDoor

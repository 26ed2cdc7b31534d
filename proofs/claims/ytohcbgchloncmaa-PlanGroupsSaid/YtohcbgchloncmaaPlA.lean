/-
  PLANS, plain: a meta's window, its mates, the first group, what has run out, what metas merge into. No condition but what each says.
-/
import Derived.Test.YtohcbgchloncmaaMes
namespace Go.Proofs.Ytohcbgchloncmaa
open Go.RowKit

/-- a meta's window -/
def winI (long : Int) (m : Me) : Int := m.en.tdiv long

/-- is b of a's level and window? -/
def mateB (long : Int) (a b : Me) : Bool := decide (b.lv = a.lv) && decide (winI long b = winI long a)

/-- may a be in a group of l? -/
def eligB (l : List Me) (long : Int) (a : Me) : Bool := decide (2 ≤ (l.filter (mateB long a)).length) && decide (a.lv < 10)

/-- is a's group ahead of b's? -/
def grpLess (long : Int) (a b : Me) : Bool := decide (a.lv < b.lv) || (decide (a.lv = b.lv) && decide (winI long a < winI long b))

def bestStep (l : List Me) (long : Int) (b : Option Me) (x : Me) : Option Me :=
  if eligB l long x = true then
    match b with
    | none => some x
    | some y => if grpLess long x y = true then some x else some y
  else b

/-- one of the first group -/
def bestM (l : List Me) (long : Int) : Option Me := l.foldl (bestStep l long) none

/-- the first group, most at most -/
def grpR (l : List Me) (long : Int) (most : Nat) : List Me :=
  match bestM l long with
  | none => []
  | some b => (l.filter (mateB long b)).take most

/-- what has run out -/
def outR (l : List Me) (now ret : Int) : List Me := l.filter fun m => decide (m.en ≤ now - ret)

theorem mateB_yes {long : Int} {a b : Me} : mateB long a b = true ↔ b.lv = a.lv ∧ winI long b = winI long a := by simp [mateB]

theorem mateB_same {long : Int} {a b : Me} (h : mateB long a b = true) : mateB long b = mateB long a := by
  obtain ⟨h1, h2⟩ := mateB_yes.1 h
  funext x
  simp [mateB, h1, h2]

theorem grpLess_irrefl (long : Int) (a : Me) : grpLess long a a = false := by simp [grpLess]

theorem grpLess_no {long : Int} {a b : Me} : grpLess long a b = false ↔ b.lv < a.lv ∨ (a.lv = b.lv ∧ winI long b ≤ winI long a) := by
  simp only [grpLess, Bool.or_eq_false_iff, Bool.and_eq_false_iff, decide_eq_false_iff_not]
  constructor
  · rintro ⟨h1, h2 | h2⟩
    · exact .inl (by omega)
    · by_cases h : a.lv = b.lv
      · exact .inr ⟨h, by omega⟩
      · exact .inl (by omega)
  · rintro (h | ⟨h1, h2⟩)
    · exact ⟨by omega, .inl (by omega)⟩
    · exact ⟨by omega, .inr (by omega)⟩

theorem grpLess_yes {long : Int} {a b : Me} : grpLess long a b = true ↔ a.lv < b.lv ∨ (a.lv = b.lv ∧ winI long a < winI long b) := by simp [grpLess]

/-- what a fold tells, from any beginning -/
theorem bestFold (l : List Me) (long : Int) : ∀ (k : List Me) (b : Option Me),
    (k.foldl (bestStep l long) b = none ↔ b = none ∧ ∀ x ∈ k, eligB l long x = false) ∧
    ∀ y, k.foldl (bestStep l long) b = some y → (b = some y ∨ (y ∈ k ∧ eligB l long y = true)) ∧ (∀ x ∈ k, eligB l long x = true → grpLess long x y = false) ∧ ∀ z, b = some z → grpLess long z y = false
  | [], b => ⟨by simp, fun y h => ⟨.inl h, by simp, fun z hz => by
      have h' : b = some y := h
      rw [hz] at h'
      rw [Option.some.inj h']
      exact grpLess_irrefl _ _⟩⟩
  | x :: k, b => by
    obtain ⟨h1, h2⟩ := bestFold l long k (bestStep l long b x)
    rw [List.foldl_cons]
    cases he : eligB l long x with
    | false =>
      have hb : bestStep l long b x = b := by simp [bestStep, he]
      rw [hb] at h1 h2 ⊢
      refine ⟨h1.trans ⟨fun ⟨a, c⟩ => ⟨a, fun z hz => ?_⟩, fun ⟨a, c⟩ => ⟨a, fun z hz => c z (List.mem_cons_of_mem _ hz)⟩⟩, fun y hy => ?_⟩
      · rcases List.mem_cons.1 hz with rfl | hz
        · exact he
        · exact c z hz
      · obtain ⟨a, c, d⟩ := h2 y hy
        refine ⟨a.imp_right fun ⟨p, q⟩ => ⟨List.mem_cons_of_mem _ p, q⟩, fun z hz hez => ?_, d⟩
        rcases List.mem_cons.1 hz with rfl | hz
        · rw [he] at hez; cases hez
        · exact c z hz hez
    | true =>
      obtain ⟨w, hw, hwx, hwb, hwm⟩ : ∃ w, bestStep l long b x = some w ∧ grpLess long x w = false ∧ (∀ z, b = some z → grpLess long z w = false) ∧ (w = x ∨ b = some w) := by
        cases b with
        | none => exact ⟨x, by simp [bestStep, he], grpLess_irrefl _ _, (fun z h => by cases h), .inl rfl⟩
        | some y =>
          by_cases hl : grpLess long x y = true
          · refine ⟨x, by simp [bestStep, he, hl], grpLess_irrefl _ _, fun z hz => ?_, .inl rfl⟩
            have hz := Option.some.inj hz
            subst hz
            rw [grpLess_no]
            rcases grpLess_yes.1 hl with h | ⟨h, h'⟩
            · exact .inl h
            · exact .inr ⟨h.symm, by omega⟩
          · have hl' : grpLess long x y = false := by simpa using hl
            refine ⟨y, by simp [bestStep, he, hl'], hl', fun z hz => ?_, .inr rfl⟩
            rw [Option.some.inj hz]
            exact grpLess_irrefl _ _
      have htr : ∀ a c, grpLess long a w = false → grpLess long w c = false → grpLess long a c = false := fun a c h h' => by
        rw [grpLess_no] at h h' ⊢
        rcases h with h | ⟨h, h3⟩ <;> rcases h' with h' | ⟨h', h4⟩
        · exact .inl (by omega)
        · exact .inl (by omega)
        · exact .inl (by omega)
        · exact .inr ⟨by omega, by omega⟩
      rw [hw] at h1 h2 ⊢
      refine ⟨⟨fun h => ?_, fun ⟨_, h⟩ => ?_⟩, fun y hy => ?_⟩
      · have := h1.1 h
        cases this.1
      · have := h x (List.mem_cons_self ..)
        rw [he] at this
        cases this
      · obtain ⟨a, c, d⟩ := h2 y hy
        have hd := d w rfl
        refine ⟨?_, fun z hz hez => ?_, fun z hz => htr z y (hwb z hz) hd⟩
        · rcases a with a | ⟨p, q⟩
          · have a := Option.some.inj a
            subst a
            rcases hwm with rfl | hwm
            · exact .inr ⟨List.mem_cons_self .., he⟩
            · exact .inl hwm
          · exact .inr ⟨List.mem_cons_of_mem _ p, q⟩
        · rcases List.mem_cons.1 hz with rfl | hz
          · exact htr z y hwx hd
          · exact c z hz hez

theorem bestM_none {l : List Me} {long : Int} : bestM l long = none ↔ ∀ x ∈ l, eligB l long x = false := by
  rw [bestM, (bestFold l long l none).1]
  simp

theorem bestM_some {l : List Me} {long : Int} {b : Me} (h : bestM l long = some b) : b ∈ l ∧ eligB l long b = true ∧ ∀ x ∈ l, eligB l long x = true → grpLess long x b = false := by
  obtain ⟨h1, h2, _⟩ := (bestFold l long l none).2 b h
  rcases h1 with h1 | h1
  · cases h1
  · exact ⟨h1.1, h1.2, h2⟩

/-- the first group, from any of its metas -/
theorem grpR_of {l : List Me} {long : Int} {most : Nat} {b : Me} (hb : b ∈ l) (he : eligB l long b = true) (hm : ∀ x ∈ l, eligB l long x = true → grpLess long x b = false) : grpR l long most = (l.filter (mateB long b)).take most := by
  cases hc : bestM l long with
  | none =>
    have := bestM_none.1 hc b hb
    rw [he] at this
    cases this
  | some c =>
    obtain ⟨h1, h2, h3⟩ := bestM_some hc
    have ha := grpLess_no.1 (hm c h1 h2)
    have hd := grpLess_no.1 (h3 b hb he)
    have hsame : mateB long c b = true := mateB_yes.2 (by
      rcases ha with ha | ⟨ha, ha'⟩ <;> rcases hd with hd | ⟨hd, hd'⟩
      · omega
      · omega
      · omega
      · exact ⟨hd, by omega⟩)
    rw [grpR, hc, mateB_same hsame]

theorem grpR_none {l : List Me} {long : Int} {most : Nat} (h : ∀ x ∈ l, eligB l long x = false) : grpR l long most = [] := by
  rw [grpR, bestM_none.2 h]

/-- what a group is -/
theorem grpR_is {l : List Me} {long : Int} {most : Nat} (hm : 2 ≤ most) (h : grpR l long most ≠ []) : ∃ b, b ∈ l ∧ b.lv < 10 ∧ 2 ≤ (grpR l long most).length ∧ (grpR l long most).length ≤ most ∧ ∀ x ∈ grpR l long most, x ∈ l ∧ x.lv = b.lv ∧ winI long x = winI long b := by
  cases hc : bestM l long with
  | none => exact absurd (by rw [grpR, hc]) h
  | some b =>
    obtain ⟨h1, h2, _⟩ := bestM_some hc
    simp only [eligB, Bool.and_eq_true, decide_eq_true_eq] at h2
    have hg : grpR l long most = (l.filter (mateB long b)).take most := by rw [grpR, hc]
    rw [hg]
    refine ⟨b, h1, h2.2, by rw [List.length_take]; omega, by rw [List.length_take]; omega, fun x hx => ?_⟩
    have hx' := List.mem_of_mem_take hx
    rw [List.mem_filter] at hx'
    exact ⟨hx'.1, mateB_yes.1 hx'.2⟩

/-- the greatest of a and these, the least -/
def topI (a : Int) (l : List Int) : Int := l.foldl (fun a x => if a < x then x else a) a

def lowI (a : Int) (l : List Int) : Int := l.foldl (fun a x => if x < a then x else a) a

theorem topI_cons (a x : Int) (l : List Int) : topI a (x :: l) = topI (if a < x then x else a) l := rfl

theorem lowI_cons (a x : Int) (l : List Int) : lowI a (x :: l) = lowI (if x < a then x else a) l := rfl

theorem topI_app (a x : Int) (l : List Int) : topI a (l ++ [x]) = if topI a l < x then x else topI a l := by rw [topI, List.foldl_append]; rfl

theorem lowI_app (a x : Int) (l : List Int) : lowI a (l ++ [x]) = if x < lowI a l then x else lowI a l := by rw [lowI, List.foldl_append]; rfl

theorem topI_is : ∀ (l : List Int) (a : Int), (topI a l = a ∨ topI a l ∈ l) ∧ a ≤ topI a l ∧ ∀ x ∈ l, x ≤ topI a l
  | [], a => ⟨.inl rfl, Int.le_refl _, fun x h => by cases h⟩
  | y :: l, a => by
    obtain ⟨h1, h2, h3⟩ := topI_is l (if a < y then y else a)
    rw [topI_cons]
    by_cases h : a < y
    · rw [if_pos h] at h1 h2 h3 ⊢
      refine ⟨.inr ?_, by omega, fun x hx => ?_⟩
      · rcases h1 with h1 | h1
        · rw [h1]; exact List.mem_cons_self ..
        · exact List.mem_cons_of_mem _ h1
      · rcases List.mem_cons.1 hx with rfl | hx
        · exact h2
        · exact h3 x hx
    · rw [if_neg h] at h1 h2 h3 ⊢
      refine ⟨h1.imp_right (List.mem_cons_of_mem _), h2, fun x hx => ?_⟩
      rcases List.mem_cons.1 hx with rfl | hx
      · omega
      · exact h3 x hx

theorem lowI_is : ∀ (l : List Int) (a : Int), (lowI a l = a ∨ lowI a l ∈ l) ∧ lowI a l ≤ a ∧ ∀ x ∈ l, lowI a l ≤ x
  | [], a => ⟨.inl rfl, Int.le_refl _, fun x h => by cases h⟩
  | y :: l, a => by
    obtain ⟨h1, h2, h3⟩ := lowI_is l (if y < a then y else a)
    rw [lowI_cons]
    by_cases h : y < a
    · rw [if_pos h] at h1 h2 h3 ⊢
      refine ⟨.inr ?_, by omega, fun x hx => ?_⟩
      · rcases h1 with h1 | h1
        · rw [h1]; exact List.mem_cons_self ..
        · exact List.mem_cons_of_mem _ h1
      · rcases List.mem_cons.1 hx with rfl | hx
        · exact h2
        · exact h3 x hx
    · rw [if_neg h] at h1 h2 h3 ⊢
      refine ⟨h1.imp_right (List.mem_cons_of_mem _), h2, fun x hx => ?_⟩
      rcases List.mem_cons.1 hx with rfl | hx
      · omega
      · exact h3 x hx

/-- metas whose Ids rise -/
def RiseM (l : List Me) : Prop := ∀ j a b, l[j]? = some a → l[j + 1]? = some b → a.id < b.id

def riseMB : List Me → Bool
  | [] => true
  | [_] => true
  | a :: b :: l => decide (a.id < b.id) && riseMB (b :: l)

theorem riseMB_iff : ∀ (l : List Me), riseMB l = true ↔ RiseM l
  | [] => by simp [riseMB, RiseM]
  | [a] => by
    simp only [riseMB, true_iff]
    intro j x y h1 h2
    simp at h2
  | a :: b :: l => by
    rw [riseMB, Bool.and_eq_true, decide_eq_true_eq, riseMB_iff (b :: l)]
    constructor
    · rintro ⟨h1, h2⟩ j x y hx hy
      cases j with
      | zero =>
        simp at hx hy
        subst hx hy
        exact h1
      | succ j => exact h2 j x y (by simpa using hx) (by simpa using hy)
    · intro h
      exact ⟨h 0 a b rfl rfl, fun j x y hx hy => h (j + 1) x y (by simpa using hx) (by simpa using hy)⟩

end Go.Proofs.Ytohcbgchloncmaa

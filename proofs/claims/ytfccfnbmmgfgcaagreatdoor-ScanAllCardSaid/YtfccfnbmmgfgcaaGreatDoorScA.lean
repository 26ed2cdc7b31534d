/-
  CONTRACT of the document's Told (all that a scanner of a block tells), whatever the store has. Conditions: what it says.
  WHAT THE PROGRAM's SCANNER IS TO KEEP (ScanK). No theorem of its own but plain ones.
-/
import Derived.Test.YtfccfnbmmgfgcaaGreatDoorRdG
import Derived.RangeFuncRecord
import Derived.RangeFuncSeq
import Derived.Test.YtfccfnbmmgfgcaaGreatDoorKee
namespace Go.Proofs.YtfccfnbmmgfgcaaGreatDoor
open Go.RowKit
set_option maxRecDepth 100000

def upT (out : List Tn) (t : Tn) : Bool := match out.getLast? with
  | none => true
  | some u => decide (u.id < t.id)
def toP : List Tn → List Tn → Bool × List Tn
  | out, [] => (true, out)
  | out, t :: p => if upT out t = true then toP (out ++ [t]) p else (false, out)
theorem toP_no {out p : List Tn} {t : Tn} (h : upT out t = false) : toP out (t :: p) = (false, out) := by rw [toP, if_neg (by rw [h]; simp)]
theorem toP_on {out p : List Tn} {t : Tn} (h : upT out t = true) : toP out (t :: p) = toP (out ++ [t]) p := by rw [toP, if_pos h]
noncomputable def toR (id : Nat) : Nat → Nat → Sm → List Tn → (Int × List Tn) × Sm
  | 0, _, m, out => ((0, out), m)
  | n + 1, k, m, out => if (pgR m id k).1 ≠ 0 then (((pgR m id k).1, out), callS m) else
    if (toP out (pgR m id k).2).1 = true then toR id n (k + 1) (callS m) (toP out (pgR m id k).2).2 else ((2, (toP out (pgR m id k).2).2), callS m)
theorem toR_fail {id n k : Nat} {m : Sm} {out : List Tn} (h : (pgR m id k).1 ≠ 0) : toR id (n + 1) k m out = (((pgR m id k).1, out), callS m) := by rw [toR, if_pos h]
theorem toR_no {id n k : Nat} {m : Sm} {out : List Tn} (h : (pgR m id k).1 = 0) (h2 : (toP out (pgR m id k).2).1 = false) : toR id (n + 1) k m out = ((2, (toP out (pgR m id k).2).2), callS m) := by rw [toR, if_neg (by rw [h]; simp), if_neg (by rw [h2]; simp)]
theorem toR_on {id n k : Nat} {m : Sm} {out : List Tn} (h : (pgR m id k).1 = 0) (h2 : (toP out (pgR m id k).2).1 = true) : toR id (n + 1) k m out = toR id n (k + 1) (callS m) (toP out (pgR m id k).2).2 := by rw [toR, if_neg (by rw [h]; simp), if_pos h2]
noncomputable def tlR (m : Sm) (id : Nat) : (Int × List Tn) × Sm :=
  if (meR m id).1 ≠ 0 then (((meR m id).1, []), callS m) else toR id (meR m id).2.pg.toNat 0 (callS m) []

def UpIds (l : List Tn) : Prop := ∀ (k : Nat) (a b : Tn), l[k]? = some a → l[k + 1]? = some b → a.id < b.id
theorem UpIds.left {a b : List Tn} (h : UpIds (a ++ b)) : UpIds a := fun k x y h1 h2 => h k x y (by
  have := (List.getElem?_eq_some_iff.1 h1).1
  rw [List.getElem?_append_left this]
  exact h1) (by
  have := (List.getElem?_eq_some_iff.1 h2).1
  rw [List.getElem?_append_left this]
  exact h2)
theorem upT_of {out p : List Tn} {t : Tn} (h : UpIds (out ++ t :: p)) : upT out t = true := by
  rw [upT]
  cases ho : out.getLast? with
  | none => rfl
  | some u =>
    simp only [decide_eq_true_eq]
    have hne : out ≠ [] := fun e => by rw [e] at ho; cases ho
    have hl : 0 < out.length := List.length_pos_iff.2 hne
    rw [List.getLast?_eq_getElem?] at ho
    refine h (out.length - 1) u t ?_ ?_
    · rw [List.getElem?_append_left (by omega)]
      exact ho
    · rw [show out.length - 1 + 1 = out.length by omega, List.getElem?_append_right (Nat.le_refl _)]
      simp
theorem toP_up : ∀ (p out : List Tn), UpIds (out ++ p) → toP out p = (true, out ++ p)
  | [], out, _ => by rw [toP, List.append_nil]
  | t :: p, out, h => by
    rw [toP_on (upT_of h), toP_up p (out ++ [t]) (by rw [List.append_assoc]; exact h), List.append_assoc]
    rfl
theorem sGet_same {m m' : Sm} (hl : m'.l = m.l) (h : m.left = -1) (h' : m'.left = -1) (n : List UInt8) : sGet m' n = sGet m n := by
  unfold sGet
  rw [(left_call h).1, (left_call h').1, hl]
theorem meR_same {m m' : Sm} (hl : m'.l = m.l) (h : m.left = -1) (h' : m'.left = -1) (id : Nat) : meR m' id = meR m id := by
  unfold meR
  rw [sGet_same hl h h']
theorem pgR_same {m m' : Sm} (hl : m'.l = m.l) (h : m.left = -1) (h' : m'.left = -1) (id i : Nat) : pgR m' id i = pgR m id i := by
  unfold pgR
  rw [sGet_same hl h h']
theorem rdA_more {id : Nat} : ∀ (n k : Nat) (m : Sm) (out tot : List Tn), (rdA id n k m out).1 = (0, tot) → ∃ s, tot = out ++ s
  | 0, k, m, out, tot, h => ⟨[], by rw [rdA] at h; have := (Prod.mk.inj h).2; simp [this]⟩
  | n + 1, k, m, out, tot, h => by
    by_cases hp : (pgR m id k).1 = 0
    · rw [rdA_on hp] at h
      obtain ⟨s, e⟩ := rdA_more n (k + 1) _ _ _ h
      exact ⟨(pgR m id k).2 ++ s, by rw [e, List.append_assoc]⟩
    · rw [rdA_fail hp] at h
      exact absurd (Prod.mk.inj h).1 hp
theorem rd_to {id : Nat} : ∀ (n k : Nat) (m m' : Sm) (out tot : List Tn), m'.l = m.l → m.left = -1 → m'.left = -1 → (rdA id n k m out).1 = (0, tot) → UpIds tot → (toR id n k m' out).1 = (0, tot)
  | 0, k, m, m', out, tot, _, _, _, h, _ => by
    rw [rdA] at h
    rw [toR]
    exact h
  | n + 1, k, m, m', out, tot, hl, h0, h1, h, hu => by
    by_cases hp : (pgR m id k).1 = 0
    · rw [rdA_on hp] at h
      obtain ⟨s, e⟩ := rdA_more n (k + 1) _ _ _ h
      have hu2 : UpIds (out ++ (pgR m id k).2) := by
        rw [e] at hu
        exact hu.left
      have hs := pgR_same hl h0 h1 id k
      have ht := toP_up _ _ hu2
      rw [toR_on (by rw [hs]; exact hp) (by rw [hs, ht]), hs, ht]
      exact rd_to n (k + 1) (callS m) (callS m') _ _ hl (left_call h0).2 (left_call h1).2 h hu
    · rw [rdA_fail hp] at h
      exact absurd (Prod.mk.inj h).1 hp
theorem al_to {m m' : Sm} {id : Nat} {tot : List Tn} (hl : m'.l = m.l) (h0 : m.left = -1) (h1 : m'.left = -1) (h : (alR m id).1 = (0, tot)) : (meR m' id).1 = 0 ∧ (tlR m' id).1 = (0, tot) := by
  unfold alR at h
  split at h
  · rename_i hc
    exact absurd (Prod.mk.inj h).1 hc
  · rename_i hc
    have hc : (meR m id).1 = 0 := Classical.not_not.1 hc
    split at h
    · rename_i hr
      rw [h] at hr
      exact absurd rfl hr
    · split at h
      · rename_i hb
        have hs := meR_same hl h0 h1 id
        refine ⟨by rw [hs]; exact hc, ?_⟩
        rw [tlR, hs, if_neg (by rw [hc]; simp)]
        refine rd_to _ _ (callS m) (callS m') _ _ hl (left_call h0).2 (left_call h1).2 h ?_
        have hT := hb.1
        rw [h] at hT
        rcases Classical.em (IsT tot) with h3 | h3
        · exact h3.up
        · rw [isB_false h3] at hT
          cases hT
      · cases (Prod.mk.inj h).1
theorem rdA_keep {id : Nat} : ∀ (n k : Nat) (m : Sm) (out : List Tn), (rdA id n k m out).2.l = m.l ∧ (m.left = -1 → (rdA id n k m out).2.left = -1)
  | 0, _, _, _ => ⟨rfl, fun h => h⟩
  | n + 1, k, m, out => by
    by_cases hp : (pgR m id k).1 = 0
    · rw [rdA_on hp]
      have h := rdA_keep (id := id) n (k + 1) (callS m) (out ++ (pgR m id k).2)
      exact ⟨h.1, fun hl => h.2 (left_call hl).2⟩
    · rw [rdA_fail hp]
      exact ⟨rfl, fun hl => (left_call hl).2⟩
theorem alR_keep (m : Sm) (id : Nat) : (alR m id).2.l = m.l ∧ (m.left = -1 → (alR m id).2.left = -1) := by
  have h := rdA_keep (id := id) (meR m id).2.pg.toNat 0 (callS m) []
  have h2 : (rdA id (meR m id).2.pg.toNat 0 (callS m) []).2.l = m.l ∧ (m.left = -1 → (rdA id (meR m id).2.pg.toNat 0 (callS m) []).2.left = -1) := ⟨h.1, fun hl => h.2 (left_call hl).2⟩
  unfold alR
  split
  · exact ⟨rfl, fun hl => (left_call hl).2⟩
  · split
    · exact h2
    · split
      · exact h2
      · exact h2
noncomputable def scR (id n k : Nat) (m : Sm) (out l : List Tn) : (Int × List Tn) × Sm := if (toP out l).1 = true then toR id n k m (toP out l).2 else ((2, (toP out l).2), m)
theorem scR_on {id n k : Nat} {m : Sm} {out l : List Tn} {t : Tn} (h : upT out t = true) : scR id n k m out (t :: l) = scR id n k m (out ++ [t]) l := by
  unfold scR
  rw [toP_on h]
theorem scR_no {id n k : Nat} {m : Sm} {out l : List Tn} {t : Tn} (h : upT out t = false) : scR id n k m out (t :: l) = ((2, out), m) := by
  unfold scR
  rw [toP_no h, if_neg (by simp)]
theorem scR_nil {id n k : Nat} {m : Sm} {out : List Tn} : scR id n k m out [] = toR id n k m out := by
  unfold scR
  rw [toP, if_pos rfl]
theorem scR_fail {id n k : Nat} {m : Sm} {out : List Tn} (h : (pgR m id k).1 ≠ 0) : scR id (n + 1) k m out [] = (((pgR m id k).1, out), callS m) := by
  rw [scR_nil, toR_fail h]
theorem scR_page {id n k : Nat} {m : Sm} {out : List Tn} (h : (pgR m id k).1 = 0) : scR id (n + 1) k m out [] = scR id n (k + 1) (callS m) out (pgR m id k).2 := by
  rw [scR_nil]
  unfold scR
  by_cases h2 : (toP out (pgR m id k).2).1 = true
  · rw [toR_on h h2, if_pos h2]
  · rw [toR_no h (by simpa using h2), if_neg h2]
theorem toP_more : ∀ (p out : List Tn), ∃ s, (toP out p).2 = out ++ s
  | [], out => ⟨[], by rw [toP, List.append_nil]⟩
  | t :: p, out => by
    rw [toP]
    split
    · obtain ⟨s, e⟩ := toP_more p (out ++ [t])
      exact ⟨t :: s, by rw [e, List.append_assoc]; rfl⟩
    · exact ⟨[], by simp⟩
theorem toR_more {id : Nat} : ∀ (n k : Nat) (m : Sm) (out : List Tn), ∃ s, (toR id n k m out).1.2 = out ++ s
  | 0, _, _, out => ⟨[], by simp [toR]⟩
  | n + 1, k, m, out => by
    rw [toR]
    split
    · exact ⟨[], by simp⟩
    · obtain ⟨s, e⟩ := toP_more (pgR m id k).2 out
      split
      · obtain ⟨s2, e2⟩ := toR_more (id := id) n (k + 1) (callS m) (toP out (pgR m id k).2).2
        exact ⟨s ++ s2, by rw [e2, e, List.append_assoc]⟩
      · exact ⟨s, e⟩
theorem scR_more (id n k : Nat) (m : Sm) (out l : List Tn) : ∃ s, (scR id n k m out l).1.2 = out ++ s := by
  unfold scR
  obtain ⟨s, e⟩ := toP_more l out
  split
  · obtain ⟨s2, e2⟩ := toR_more (id := id) n k m (toP out l).2
    exact ⟨s ++ s2, by rw [e2, e, List.append_assoc]⟩
  · exact ⟨s, e⟩

structure ScanN (PSc : World → (Nat → Prop) → Nat → Nat → List Tn → Int → Sm → Bool → Prop) : Prop where
  thing : ∀ g c rest code mf en, Thing fun w F => PSc w F g c rest code mf en
  open_nil : ∀ {w : World} (id : Nat), id < 18446744073709551616 → Ld w → Calls Tryz.prog 10 #[.pointer none, .int .u64 (id : Int)] w fun e w' => e = .returned (.tuple #[.pointer none, code 1]) ∧ Below w.heap.size w w'
  open_no : ∀ {w : World} {F : Nat → Prop} {g : Nat} {m : Sm} {N : Nat} (id : Nat), PSt w F g m → m.fine N → N ≤ 10000 → id < 18446744073709551616 → Keep F Ld w → (meR m id).1 ≠ 0 →
    Calls Tryz.prog 10 #[.pointer (some ⟨g, 0, none⟩), .int .u64 (id : Int)] w fun e w' => e = .returned (.tuple #[.pointer none, errV (meR m id).1]) ∧ ∃ F', PSt w' F' g (callS m) ∧ Goes w F w' F'
  open_ok : ∀ {w : World} {F : Nat → Prop} {g : Nat} {m : Sm} {N : Nat} (id : Nat), PSt w F g m → m.fine N → N ≤ 10000 → id < 18446744073709551616 → Keep F Ld w → (meR m id).1 = 0 →
    Calls Tryz.prog 10 #[.pointer (some ⟨g, 0, none⟩), .int .u64 (id : Int)] w fun e w' => ∃ (c : Nat) (F' : Nat → Prop), e = .returned (.tuple #[.pointer (some ⟨c, 0, none⟩), .nilIface]) ∧ PSc w' F' g c (tlR m id).1.2 (tlR m id).1.1 (tlR m id).2 false ∧ Goes w F w' F'
  next_on : ∀ {w : World} {F : Nat → Prop} {g c : Nat} {t : Tn} {rest : List Tn} {cd : Int} {mf : Sm}, PSc w F g c (t :: rest) cd mf false → Keep F Ld w →
    Calls Tryz.prog 13 #[.pointer (some ⟨c, 0, none⟩)] w fun e w' => ∃ (d : Value) (F' : Nat → Prop), e = .returned (.tuple #[.agg #[.int .u64 t.id, d], .bool true, .nilIface]) ∧ PSc w' F' g c rest cd mf false ∧ Keep (fun q => ¬ F' q) (fun u => Ss u d t.sp) w' ∧ (0 ≤ t.id ∧ t.id ≤ 18446744073709551615) ∧ Goes w F w' F'
  next_end : ∀ {w : World} {F : Nat → Prop} {g c : Nat} {cd : Int} {mf : Sm} {en : Bool}, PSc w F g c [] cd mf en → Keep F Ld w →
    Calls Tryz.prog 13 #[.pointer (some ⟨c, 0, none⟩)] w fun e w' => ∃ (F' : Nat → Prop), e = .returned (.tuple #[.agg #[.int .u64 0, .slice none 0 0], .bool false, errV cd]) ∧ PSc w' F' g c [] cd mf true ∧ Goes w F w' F'
  done_no : ∀ {w : World} {F : Nat → Prop} {g c : Nat} {t : Tn} {rest : List Tn} {cd : Int} {mf : Sm}, PSc w F g c (t :: rest) cd mf false →
    Calls Tryz.prog 12 #[.pointer (some ⟨c, 0, none⟩)] w fun e w' => e = .returned (.bool false) ∧ Below w.heap.size w w'
  done_yes : ∀ {w : World} {F : Nat → Prop} {g c : Nat} {cd : Int} {mf : Sm}, PSc w F g c [] cd mf true →
    Calls Tryz.prog 12 #[.pointer (some ⟨c, 0, none⟩)] w fun e w' => e = .returned (.bool true) ∧ Below w.heap.size w w'
  store : ∀ {w : World} {F : Nat → Prop} {g c : Nat} {cd : Int} {mf : Sm}, PSc w F g c [] cd mf true → ∃ F', PSt w F' g mf ∧ ∀ q, F' q → F q
structure ScanK (PSc : World → (Nat → Prop) → Nat → Nat → List Tn → Int → Sm → Bool → Prop) (PSq : World → (Nat → Prop) → Nat → Sm → Value → Nat → Prop) : Prop extends ScanN PSc where
  thing_q : ∀ g m fv id, Thing fun w F => PSq w F g m fv id
  each : ∀ {w : World} {F : Nat → Prop} {g : Nat} {m : Sm} (id : Nat), PSt w F g m → id < 18446744073709551616 →
    Calls Tryz.prog 15 #[.pointer (some ⟨g, 0, none⟩), .int .u64 (id : Int)] w fun e w' => ∃ (fv : Value) (F' : Nat → Prop), e = .returned fv ∧ PSq w' F' g m fv id ∧ Goes w F w' F'
  seq : ∀ {w : World} {F : Nat → Prop} {g : Nat} {m : Sm} {fv : Value} {id : Nat}, PSq w F g m fv id → ∃ (gf : Nat) (lb : Array Value), fv = .func (.func gf) #[] lb ∧ (∀ args u, (callFunc gf args).run Tryz.prog u = .ok (.enter gf args) u) ∧
    ∀ (N l : Nat) (J Jx : List Tn → (Nat → Prop) → World → Prop), m.fine N → N ≤ 10000 → id < 18446744073709551616 →
      (∀ pre F W F' W', J pre F W → Goes W F W' F' → (∀ q, F' q → q < W'.heap.size) → J pre F' W') → (∀ pre F W F' W', Jx pre F W → Goes W F W' F' → (∀ q, F' q → q < W'.heap.size) → Jx pre F' W') → (∀ pre F W, J pre F W → Keep F Ld W) →
      (∀ pre t d F W, J pre F W → (tlR m id).1.2[pre.length]? = some t → Keep (fun q => ¬ F q) (fun u => Ss u d t.sp) W → (0 ≤ t.id ∧ t.id ≤ 18446744073709551615) → YieldAt Fence.wide 1 Tryz.prog l #[.int .u64 t.id, d] W fun e W' => Apt (fun q => ¬ F q) W W' ∧ ((e = .returned (.bool true) ∧ J (pre ++ [t]) F W') ∨ (e = .returned (.bool false) ∧ Jx (pre ++ [t]) F W'))) →
      J [] F w → Calls Tryz.prog gf (#[.func (.yield l) #[] #[]] ++ lb) w fun e W' => (∃ v, e = .returned v) ∧ ∃ F', J (tlR m id).1.2 F' W' ∨ ∃ pre, pre <+: (tlR m id).1.2 ∧ Jx pre F' W'

end Go.Proofs.YtfccfnbmmgfgcaaGreatDoor

/-
  A BLOCK, plain: which sizes may be ('szB'), of what a block may be made ('BkOk'), its meta ('bkMe'), what is put of it ('bkObs'). No condition but what each theorem says.
  OBJECTS PUT ONE BEHIND THE OTHER, plain: 'wrL' (up to the first that fails); what is there then; a store's objects put anew, by rising names. No condition but what each theorem says.
-/
import Derived.Test.YtgafidnbmoomiaaGreatDoorPgH
import Derived.Test.YtgafidnbmoomiaaGreatDoorIxA
import Derived.Test.YtgafidnbmoomiaaGreatDoorBlJ
import Derived.Test.YtgafidnbmoomiaaGreatDoorMtL
import Derived.Test.YtgafidnbmoomiaaGreatDoorStA
import Derived.Lib.MinMax
namespace Go.Proofs.YtgafidnbmoomiaaGreatDoor
open Go.RowKit
set_option maxRecDepth 100000

structure Sz where
  pg : Int
  sh : Int
  bi : Int
  hs : Int

structure Sz.ok (s : Sz) : Prop where
  p0 : -9223372036854775808 ≤ s.pg
  p1 : s.pg ≤ 9223372036854775807
  s0 : -9223372036854775808 ≤ s.sh
  s1 : s.sh ≤ 9223372036854775807
  b0 : -9223372036854775808 ≤ s.bi
  b1 : s.bi ≤ 9223372036854775807
  h0 : -9223372036854775808 ≤ s.hs
  h1 : s.hs ≤ 9223372036854775807

def szB (s : Sz) : Bool := rightI s.sh s.bi s.hs && (decide (64 ≤ s.pg) && decide (s.pg ≤ 8192))

def stF (a : Int) (l : List Sn) : Int := l.foldl (fun a s => min a s.st) a

def enF (a : Int) (l : List Sn) : Int := l.foldl (fun a s => max a s.en) a

def stM : List Sn → Int
  | [] => 0
  | x :: l => stF x.st (x :: l)

def enM : List Sn → Int
  | [] => 0
  | x :: l => enF x.en (x :: l)

def pagesOf (l : List Tn) (s : Sz) : List (List Tn) := cutL s.pg l.length l

def bkMe (id : Nat) (lv : Int) (l : List Tn) (s : Sz) : Me := ⟨id, lv, stM (flatT l), enM (flatT l), ((pagesOf l s).length : Nat), (l.length : Nat)⟩

structure BkOk (id : Nat) (lv : Int) (l : List Tn) (s : Sz) : Prop where
  sz : szB s = true
  ne : l ≠ []
  is : IsT l
  id0 : id ≠ 0
  lv0 : 0 ≤ lv
  lv1 : lv ≤ 10

def obPg (id : Nat) (p : List Tn) (i : Nat) : Ob := ⟨nmOf id [112] (i : Int), pgOf p⟩

def obPages (id : Nat) (ps : List (List Tn)) : List Ob := ps.zipIdx.map fun x => obPg id x.1 x.2

def bkIx (ps : List (List Tn)) : List UInt8 := sealedOf (ixBytes (ps.map firstId))

def bkFl (l : List Tn) (s : Sz) : Bl := (Bl.new s.sh.toNat s.bi.toNat s.hs.toNat).adds (l.map fun t => t.id.toNat)

def bkObs (id : Nat) (lv : Int) (l : List Tn) (s : Sz) : List Ob :=
  obPages id (pagesOf l s) ++ [⟨nmOf id [105] 0, bkIx (pagesOf l s)⟩, ⟨nmOf id [102] 0, (bkFl l s).bytes⟩, ⟨nmOf id [109] 0, sealedOf (meRaw (bkMe id lv l s))⟩]

theorem sPut_left {m : Sm} {n b : List UInt8} (h : (sPut m n b).2 ≠ 0) : (sPut m n b).1.l = m.l := by
  unfold sPut at h ⊢
  repeat' split
  all_goals first | rfl | (rename_i h1 h2 h3 h4; simp [h1, h2, h3, h4] at h)

theorem sPut_room (m : Sm) (n b : List UInt8) : (sPut m n b).1.room = m.room := by
  unfold sPut callS
  repeat' split
  all_goals rfl

structure Kept (m : Sm) : Prop where
  rise : Rise m.l
  named : ∀ o ∈ m.l, nameB o.nm = true
  fits : (usedL m.l : Int) ≤ m.room

theorem sPut_zero {m : Sm} {n b : List UInt8} (h : (sPut m n b).2 = 0) : callB m = true ∧ nameB n = true ∧ ¬ restU m n + b.length > m.room := by
  cases h1 : callB m with
  | false => rw [sPut_e8 h1] at h; simp at h
  | true =>
    cases h2 : nameB n with
    | false => rw [sPut_e1 h1 h2] at h; simp at h
    | true =>
      refine ⟨rfl, rfl, fun h3 => ?_⟩
      rw [sPut_e6 h1 h2 h3] at h
      simp at h

theorem Kept.put {m : Sm} (h : Kept m) (n b : List UInt8) : Kept (sPut m n b).1 := by
  by_cases h0 : (sPut m n b).2 = 0
  · obtain ⟨h1, h2, h3⟩ := sPut_zero h0
    obtain ⟨l', e, hr, hu, hf, ho⟩ := sPut_ok h1 h2 h3 h.rise
    rw [e]
    refine ⟨hr, fun o hm => ?_, ?_⟩
    · have hfo := fnd_of_mem hr hm
      by_cases hn : o.nm = n
      · rw [hn]; exact h2
      · rw [ho o.nm hn] at hfo
        exact h.named o (fnd_some_mem hfo)
    · show (usedL l' : Int) ≤ m.room
      rw [hu]
      omega
  · have e := sPut_left h0
    have e2 := sPut_room m n b
    exact ⟨by rw [e]; exact h.rise, by rw [e]; exact h.named, by rw [e, e2]; exact h.fits⟩

theorem sW_m : sortW [109] := .inl rfl

end Go.Proofs.YtgafidnbmoomiaaGreatDoor

/-
  POLLERS (layer 18), plain: what a step comes to, whatever the store; what steps without anything in between come to: what a listing tells. No condition but what each says.
  POLLERS, plain: a listing told again is the same where no call fails; what a poller's step keeps of what it is to be (Pl.fine). No condition but what each says.
  WHAT THE PROGRAM's POLLER IS TO TELL (PollK), L being what it reads of the library's variables: 'PP w F p g m q': in the world w the poller in block p over the store in block g, whose objects are m's, is q, all of it in the blocks F. The head of layer 18's statements. Conditions: what each says.
-/
import Derived.Test.YtgafidnbmoomiaaGreatDoorRoA
import Derived.Test.YtgafidnbmoomiaaGreatDoorRoI
namespace Go.Proofs.YtgafidnbmoomiaaGreatDoor
open Go.RowKit
set_option maxRecDepth 100000

structure Pl where
  on : Bool
  lv : List Nat
  mr : List Nat
  gl : List Me
  gk : List Mk
  rl : List Me
  rk : List Mk
  runs : Nat

def Pl.new : Pl := ⟨false, [], [], [], [], [], [], 0⟩

noncomputable def plGo (m : Sm) (p : Pl) : Int × Pl :=
  if p.on = false then ((nsR m).1, ⟨true, (nsR m).2.1, (nsR m).2.2, [], [], p.rl, p.rk, p.runs⟩)
  else match p.lv, p.mr with
    | id :: r, k => ((meR m id).1, ⟨true, r, k, p.gl ++ [(meR m id).2], p.gk, p.rl, p.rk, p.runs⟩)
    | [], id :: r => ((mrR m id).1, ⟨true, [], r, p.gl, p.gk ++ [(mrR m id).2], p.rl, p.rk, p.runs⟩)
    | [], [] => (0, p)

def plEnd (c : Int) (p : Pl) : Bool × Int × Pl :=
  if c ≠ 0 then (false, c, { p with on := false })
  else if 0 < p.lv.length + p.mr.length then (false, 0, p)
  else if 1000 < p.gl.length + p.gk.length then (false, 3, { p with on := false })
  else (true, 0, { p with on := false, rl := p.gl, rk := p.gk, runs := p.runs + 1 })

noncomputable def plStep (m : Sm) (p : Pl) : Bool × Int × Pl := plEnd (plGo m p).1 (plGo m p).2

noncomputable def plRun : Nat → Sm → Pl → Int × Sm × Pl
  | 0, m, p => (0, m, p)
  | n + 1, m, p => if (plStep m p).1 = true ∨ (plStep m p).2.1 ≠ 0 then ((plStep m p).2.1, callS m, (plStep m p).2.2) else plRun n (callS m) (plStep m p).2.2

structure PlDone (c : Int) (gl : List Me) (gk : List Mk) (p q : Pl) : Prop where
  off : q.on = false
  yes : c = 0 → q.rl = gl ∧ q.rk = gk ∧ q.runs = p.runs + 1
  no : c ≠ 0 → q.rl = p.rl ∧ q.rk = p.rk ∧ q.runs = p.runs

theorem loR_len {l : List Nat} {m : Sm} {out : List Me} (h : (loR l m out).1.1 = 0) : (loR l m out).1.2.length = out.length + l.length := by
  induction l generalizing m out with
  | nil => simp [loR]
  | cons id r ih =>
    rw [loR] at h ⊢
    split at h
    · rename_i h1; exact absurd h h1
    · rename_i h1
      rw [if_neg h1, ih h]
      simp
      omega

theorem plEnd_bad {c : Int} {p : Pl} (h : c ≠ 0) : plEnd c p = (false, c, { p with on := false }) := by rw [plEnd, if_pos h]

theorem plEnd_on {p : Pl} (h : 0 < p.lv.length + p.mr.length) : plEnd 0 p = (false, 0, p) := by rw [plEnd, if_neg (by simp), if_pos h]

theorem plEnd_large {p : Pl} (h : p.lv = []) (k : p.mr = []) (hl : 1000 < p.gl.length + p.gk.length) : plEnd 0 p = (false, 3, { p with on := false }) := by rw [plEnd, if_neg (by simp), if_neg (by simp [h, k]), if_pos hl]

theorem plEnd_whole {p : Pl} (h : p.lv = []) (k : p.mr = []) (hl : ¬ 1000 < p.gl.length + p.gk.length) : plEnd 0 p = (true, 0, { p with on := false, rl := p.gl, rk := p.gk, runs := p.runs + 1 }) := by rw [plEnd, if_neg (by simp), if_neg (by simp [h, k]), if_neg hl]

theorem plGo_off {m : Sm} {p : Pl} (h : p.on = false) : plGo m p = ((nsR m).1, ⟨true, (nsR m).2.1, (nsR m).2.2, [], [], p.rl, p.rk, p.runs⟩) := by rw [plGo, if_pos h]

theorem plGo_lv {m : Sm} {id : Nat} {r k : List Nat} {gl rl : List Me} {gk rk : List Mk} {n : Nat} : plGo m ⟨true, id :: r, k, gl, gk, rl, rk, n⟩ = ((meR m id).1, ⟨true, r, k, gl ++ [(meR m id).2], gk, rl, rk, n⟩) := by rw [plGo, if_neg (by simp)]

theorem plGo_mk {m : Sm} {id : Nat} {r : List Nat} {gl rl : List Me} {gk rk : List Mk} {n : Nat} : plGo m ⟨true, [], id :: r, gl, gk, rl, rk, n⟩ = ((mrR m id).1, ⟨true, [], r, gl, gk ++ [(mrR m id).2], rl, rk, n⟩) := by rw [plGo, if_neg (by simp)]

theorem plRun_end {n : Nat} {m : Sm} {p : Pl} (h : (plStep m p).1 = true ∨ (plStep m p).2.1 ≠ 0) : plRun (n + 1) m p = ((plStep m p).2.1, callS m, (plStep m p).2.2) := by rw [plRun, if_pos h]

theorem plRun_on {n : Nat} {m : Sm} {p : Pl} (h : (plStep m p).1 = false) (k : (plStep m p).2.1 = 0) : plRun (n + 1) m p = plRun n (callS m) (plStep m p).2.2 := by rw [plRun, if_neg (by simp [h, k])]

def mkEnd (k : List Nat) (m : Sm) (gl : List Me) (gk : List Mk) : Int := if (moR k m gk).1.1 ≠ 0 then (moR k m gk).1.1 else if 1000 < gl.length + (gk.length + k.length) then 3 else 0

theorem pl_last {m : Sm} {p : Pl} {gl rl : List Me} {gk rk : List Mk} {runs n : Nat} (hg : plGo m p = (0, ⟨true, [], [], gl, gk, rl, rk, runs⟩)) :
    ∃ q, plRun (n + 1) m p = (if 1000 < gl.length + gk.length then 3 else 0, callS m, q) ∧ PlDone (if 1000 < gl.length + gk.length then 3 else 0) gl gk ⟨true, [], [], gl, gk, rl, rk, runs⟩ q := by
  by_cases hl : 1000 < gl.length + gk.length
  · have hs : plStep m p = (false, 3, ⟨false, [], [], gl, gk, rl, rk, runs⟩) := by rw [plStep, hg]; exact plEnd_large rfl rfl hl
    refine ⟨⟨false, [], [], gl, gk, rl, rk, runs⟩, ?_, ?_⟩
    · rw [plRun_end (by rw [hs]; simp), hs, if_pos hl]
    · rw [if_pos hl]
      exact ⟨rfl, fun h => absurd h (by decide), fun _ => ⟨rfl, rfl, rfl⟩⟩
  · have hs : plStep m p = (true, 0, ⟨false, [], [], gl, gk, gl, gk, runs + 1⟩) := by rw [plStep, hg]; exact plEnd_whole rfl rfl hl
    refine ⟨⟨false, [], [], gl, gk, gl, gk, runs + 1⟩, ?_, ?_⟩
    · rw [plRun_end (by rw [hs]; simp), hs, if_neg hl]
    · rw [if_neg hl]
      exact ⟨rfl, fun _ => ⟨rfl, rfl, rfl⟩, fun h => absurd rfl h⟩

theorem pl_bad {m : Sm} {p p' : Pl} {c : Int} {n : Nat} (hg : plGo m p = (c, p')) (hc : c ≠ 0) : plRun (n + 1) m p = (c, callS m, { p' with on := false }) := by
  have hs : plStep m p = (false, c, { p' with on := false }) := by rw [plStep, hg]; exact plEnd_bad hc
  rw [plRun_end (by rw [hs]; exact .inr hc), hs]

theorem pl_on {m : Sm} {p p' : Pl} {n : Nat} (hg : plGo m p = (0, p')) (hc : 0 < p'.lv.length + p'.mr.length) : plRun (n + 1) m p = plRun n (callS m) p' := by
  have hs : plStep m p = (false, 0, p') := by rw [plStep, hg]; exact plEnd_on hc
  rw [plRun_on (by rw [hs]) (by rw [hs]), hs]

theorem plRun_marks {k : List Nat} {m : Sm} {gl rl : List Me} {gk rk : List Mk} {runs n : Nat} (hk : k ≠ []) (hn : k.length ≤ n) :
    ∃ q, plRun n m ⟨true, [], k, gl, gk, rl, rk, runs⟩ = (mkEnd k m gl gk, (moR k m gk).2, q) ∧ PlDone (mkEnd k m gl gk) gl (moR k m gk).1.2 ⟨true, [], k, gl, gk, rl, rk, runs⟩ q := by
  induction k generalizing m gk n with
  | nil => exact absurd rfl hk
  | cons id r ih =>
    obtain ⟨n, rfl⟩ : ∃ j, n = j + 1 := ⟨n - 1, by simp at hn; omega⟩
    by_cases hc : (mrR m id).1 = 0
    · have hmo : moR (id :: r) m gk = moR r (callS m) (gk ++ [(mrR m id).2]) := by rw [moR, if_neg (by rw [hc]; simp)]
      have hme : mkEnd (id :: r) m gl gk = mkEnd r (callS m) gl (gk ++ [(mrR m id).2]) := by
        rw [mkEnd, mkEnd, hmo]
        simp only [List.length_append, List.length_cons, List.length_nil, Nat.zero_add, Nat.add_assoc, Nat.add_comm 1]
      have hg := plGo_mk (m := m) (id := id) (r := r) (gl := gl) (gk := gk) (rl := rl) (rk := rk) (n := runs)
      rw [hc] at hg
      cases r with
      | nil =>
        obtain ⟨q, h1, h2⟩ := pl_last (n := n) hg
        have he : mkEnd [id] m gl gk = if 1000 < gl.length + (gk ++ [(mrR m id).2]).length then 3 else 0 := by
          rw [hme, mkEnd, moR, if_neg (by simp)]
          simp
        refine ⟨q, ?_, ?_⟩
        · rw [h1, he, hmo, moR]
        · rw [he, hmo, moR]
          exact ⟨h2.off, h2.yes, h2.no⟩
      | cons id2 r2 =>
        rw [pl_on hg (by simp)]
        obtain ⟨q, h1, h2⟩ := ih (m := callS m) (gk := gk ++ [(mrR m id).2]) (n := n) (by simp) (by simp at hn ⊢; omega)
        refine ⟨q, ?_, ?_⟩
        · rw [h1, hme, hmo]
        · rw [hme, hmo]
          exact ⟨h2.off, h2.yes, h2.no⟩
    · have hmo : moR (id :: r) m gk = (((mrR m id).1, gk), callS m) := by rw [moR, if_pos hc]
      have hme : mkEnd (id :: r) m gl gk = (mrR m id).1 := by rw [mkEnd, hmo, if_pos hc]
      refine ⟨⟨false, [], r, gl, gk ++ [(mrR m id).2], rl, rk, runs⟩, ?_, ?_⟩
      · rw [pl_bad plGo_mk hc, hme, hmo]
      · rw [hme, hmo]
        exact ⟨rfl, fun h => absurd h hc, fun _ => ⟨rfl, rfl, rfl⟩⟩

def lvEnd (l k : List Nat) (m : Sm) (gl : List Me) (gk : List Mk) : Int := if (loR l m gl).1.1 ≠ 0 then (loR l m gl).1.1 else mkEnd k (loR l m gl).2 (loR l m gl).1.2 gk

def lvSm (l k : List Nat) (m : Sm) (gl : List Me) (gk : List Mk) : Sm := if (loR l m gl).1.1 ≠ 0 then (loR l m gl).2 else (moR k (loR l m gl).2 gk).2

theorem plRun_lives {l k : List Nat} {m : Sm} {gl rl : List Me} {gk rk : List Mk} {runs n : Nat} (hk : l ++ k ≠ []) (hn : l.length + k.length ≤ n) :
    ∃ q, plRun n m ⟨true, l, k, gl, gk, rl, rk, runs⟩ = (lvEnd l k m gl gk, lvSm l k m gl gk, q) ∧ PlDone (lvEnd l k m gl gk) (loR l m gl).1.2 (moR k (loR l m gl).2 gk).1.2 ⟨true, l, k, gl, gk, rl, rk, runs⟩ q := by
  induction l generalizing m gl n with
  | nil =>
    have h1 : lvEnd [] k m gl gk = mkEnd k m gl gk := by rw [lvEnd, loR, if_neg (by simp)]
    have h2 : lvSm [] k m gl gk = (moR k m gk).2 := by rw [lvSm, loR, if_neg (by simp)]
    rw [h1, h2, loR]
    exact plRun_marks (by simpa using hk) (by simpa using hn)
  | cons id r ih =>
    obtain ⟨n, rfl⟩ : ∃ j, n = j + 1 := ⟨n - 1, by simp at hn; omega⟩
    by_cases hc : (meR m id).1 = 0
    · have hlo : loR (id :: r) m gl = loR r (callS m) (gl ++ [(meR m id).2]) := by rw [loR, if_neg (by rw [hc]; simp)]
      have hle : lvEnd (id :: r) k m gl gk = lvEnd r k (callS m) (gl ++ [(meR m id).2]) gk := by rw [lvEnd, lvEnd, hlo]
      have hls : lvSm (id :: r) k m gl gk = lvSm r k (callS m) (gl ++ [(meR m id).2]) gk := by rw [lvSm, lvSm, hlo]
      have hg := plGo_lv (m := m) (id := id) (r := r) (k := k) (gl := gl) (gk := gk) (rl := rl) (rk := rk) (n := runs)
      rw [hc] at hg
      by_cases hz : r ++ k = []
      · obtain ⟨rfl, rfl⟩ := List.append_eq_nil_iff.1 hz
        obtain ⟨q, h1, h2⟩ := pl_last (n := n) hg
        have he : lvEnd [id] [] m gl gk = if 1000 < (gl ++ [(meR m id).2]).length + gk.length then 3 else 0 := by
          rw [hle, lvEnd, loR, if_neg (by simp), mkEnd, moR, if_neg (by simp)]
          simp
        have hs : lvSm [id] [] m gl gk = callS m := by rw [hls, lvSm, loR, if_neg (by simp), moR]
        refine ⟨q, ?_, ?_⟩
        · rw [h1, he, hs]
        · rw [he, hlo, loR, moR]
          exact ⟨h2.off, h2.yes, h2.no⟩
      · rw [pl_on hg (by
          have := List.length_pos_iff.2 hz
          simpa using this)]
        obtain ⟨q, h1, h2⟩ := ih (m := callS m) (gl := gl ++ [(meR m id).2]) (n := n) hz (by simp at hn ⊢; omega)
        refine ⟨q, ?_, ?_⟩
        · rw [h1, hle, hls]
        · rw [hle, hlo]
          exact ⟨h2.off, h2.yes, h2.no⟩
    · have hlo : loR (id :: r) m gl = (((meR m id).1, gl), callS m) := by rw [loR, if_pos hc]
      have hle : lvEnd (id :: r) k m gl gk = (meR m id).1 := by rw [lvEnd, hlo, if_pos hc]
      have hls : lvSm (id :: r) k m gl gk = callS m := by rw [lvSm, hlo, if_pos hc]
      refine ⟨⟨false, r, k, gl ++ [(meR m id).2], gk, rl, rk, runs⟩, ?_, ?_⟩
      · rw [pl_bad plGo_lv hc, hle, hls]
      · rw [hle, hlo]
        exact ⟨rfl, fun h => absurd h hc, fun _ => ⟨rfl, rfl, rfl⟩⟩

theorem plRun_liR {m : Sm} {p : Pl} {n : Nat} (hp : p.on = false) (hn : (nsR m).2.1.length + (nsR m).2.2.length + 1 ≤ n) :
    ∃ q, plRun n m p = ((liR m).1.1, (liR m).2, q) ∧ PlDone (liR m).1.1 (liR m).1.2.1 (liR m).1.2.2 p q := by
  obtain ⟨n, rfl⟩ : ∃ j, n = j + 1 := ⟨n - 1, by omega⟩
  have hg := plGo_off (m := m) hp
  have hli : liR m = if (nsR m).1 ≠ 0 then (((nsR m).1, [], []), callS m)
      else if (loR (nsR m).2.1 (callS m) []).1.1 ≠ 0 then (((loR (nsR m).2.1 (callS m) []).1.1, [], []), (loR (nsR m).2.1 (callS m) []).2)
      else if (moR (nsR m).2.2 (loR (nsR m).2.1 (callS m) []).2 []).1.1 ≠ 0 then (((moR (nsR m).2.2 (loR (nsR m).2.1 (callS m) []).2 []).1.1, [], []), (moR (nsR m).2.2 (loR (nsR m).2.1 (callS m) []).2 []).2)
      else if 1000 < (nsR m).2.1.length + (nsR m).2.2.length then ((3, [], []), (moR (nsR m).2.2 (loR (nsR m).2.1 (callS m) []).2 []).2)
      else ((0, (loR (nsR m).2.1 (callS m) []).1.2, (moR (nsR m).2.2 (loR (nsR m).2.1 (callS m) []).2 []).1.2), (moR (nsR m).2.2 (loR (nsR m).2.1 (callS m) []).2 []).2) := rfl
  rw [hli]
  generalize nsR m = nm at hg hn
  obtain ⟨bc, live, marked⟩ := nm
  simp only at hg hn ⊢
  by_cases hc : bc = 0
  · subst hc
    rw [if_neg (by simp)]
    by_cases hz : live ++ marked = []
    · obtain ⟨rfl, rfl⟩ := List.append_eq_nil_iff.1 hz
      obtain ⟨q, h1, h2⟩ := pl_last (n := n) hg
      simp only [List.length_nil, Nat.add_zero] at h1 h2
      refine ⟨q, ?_, ?_⟩
      · rw [h1]
        simp [loR, moR]
      · simp [loR, moR] at h2 ⊢
        exact ⟨h2.off, h2.yes, h2.no⟩
    · rw [pl_on hg (by
        have := List.length_pos_iff.2 hz
        simpa using this)]
      obtain ⟨q, h1, h2⟩ := plRun_lives (l := live) (k := marked) (m := callS m) (gl := []) (gk := []) (rl := p.rl) (rk := p.rk) (runs := p.runs) (n := n) hz (by omega)
      refine ⟨q, ?_⟩
      rw [h1]
      by_cases hl : (loR live (callS m) []).1.1 = 0
      · have hll := loR_len hl
        have e1 : lvEnd live marked (callS m) [] [] = mkEnd marked (loR live (callS m) []).2 (loR live (callS m) []).1.2 [] := by rw [lvEnd, if_neg (by rw [hl]; simp)]
        have e2 : lvSm live marked (callS m) [] [] = (moR marked (loR live (callS m) []).2 []).2 := by rw [lvSm, if_neg (by rw [hl]; simp)]
        rw [e1] at h2 ⊢
        rw [e2, if_neg (by rw [hl]; simp)]
        rw [mkEnd] at h2 ⊢
        by_cases hk : (moR marked (loR live (callS m) []).2 []).1.1 = 0
        · simp only [List.length_nil, Nat.zero_add] at hll
          simp only [hk, hll, ne_eq, not_true_eq_false, if_false, List.length_nil, Nat.zero_add] at h2 ⊢
          by_cases hb : 1000 < live.length + marked.length
          · simp only [hb, if_true] at h2 ⊢
            exact ⟨trivial, h2.off, fun h => absurd h (by decide), fun _ => h2.no (by decide)⟩
          · simp only [hb, if_false] at h2 ⊢
            exact ⟨trivial, h2.off, fun _ => h2.yes rfl, fun h => absurd rfl h⟩
        · rw [if_pos hk] at h2 ⊢
          rw [if_pos hk]
          exact ⟨rfl, h2.off, fun h => absurd h hk, fun _ => h2.no hk⟩
      · have e1 : lvEnd live marked (callS m) [] [] = (loR live (callS m) []).1.1 := by rw [lvEnd, if_pos hl]
        have e2 : lvSm live marked (callS m) [] [] = (loR live (callS m) []).2 := by rw [lvSm, if_pos hl]
        rw [e1] at h2 ⊢
        rw [e2, if_pos hl]
        exact ⟨rfl, h2.off, fun h => absurd h hl, fun _ => h2.no hl⟩
  · rw [if_pos hc]
    refine ⟨_, pl_bad hg hc, rfl, fun h => absurd h hc, fun _ => ⟨rfl, rfl, rfl⟩⟩

structure Alike (m m' : Sm) : Prop where
  l : m'.l = m.l
  a : m.left = -1
  b : m'.left = -1

theorem Alike.call {m m' : Sm} (h : Alike m m') : Alike m (callS m') := ⟨h.l, h.a, by show (if m'.left ≤ 0 then (-1 : Int) else m'.left - 1) = -1; rw [if_pos (by rw [h.b]; decide)]⟩

theorem Alike.calls {m m' : Sm} (h : Alike m m') : Alike (callS m) (callS m') := ⟨h.l, by show (if m.left ≤ 0 then (-1 : Int) else m.left - 1) = -1; rw [if_pos (by rw [h.a]; decide)], h.call.b⟩

theorem Alike.me {m m' : Sm} (h : Alike m m') (id : Nat) : meR m' id = meR m id := by
  obtain ⟨h1, h2, h3⟩ := h
  obtain ⟨r, f, c, l⟩ := m
  obtain ⟨r', f', c', l'⟩ := m'
  simp only at h1 h2 h3
  subst h1 h2 h3
  rfl

theorem Alike.mr {m m' : Sm} (h : Alike m m') (id : Nat) : mrR m' id = mrR m id := by
  obtain ⟨h1, h2, h3⟩ := h
  obtain ⟨r, f, c, l⟩ := m
  obtain ⟨r', f', c', l'⟩ := m'
  simp only at h1 h2 h3
  subst h1 h2 h3
  rfl

theorem Alike.ns {m m' : Sm} (h : Alike m m') : nsR m' = nsR m := by
  obtain ⟨h1, h2, h3⟩ := h
  obtain ⟨r, f, c, l⟩ := m
  obtain ⟨r', f', c', l'⟩ := m'
  simp only at h1 h2 h3
  subst h1 h2 h3
  rfl

theorem Alike.lo : ∀ (r : List Nat) {m m' : Sm} (out : List Me), Alike m m' → (loR r m' out).1 = (loR r m out).1 ∧ Alike (loR r m out).2 (loR r m' out).2
  | [], _, _, _, h => ⟨rfl, h⟩
  | id :: r, m, m', out, h => by
    rw [loR, loR, h.me]
    split
    · exact ⟨rfl, h.calls⟩
    · exact Alike.lo r _ h.calls

theorem Alike.mo : ∀ (r : List Nat) {m m' : Sm} (out : List Mk), Alike m m' → (moR r m' out).1 = (moR r m out).1 ∧ Alike (moR r m out).2 (moR r m' out).2
  | [], _, _, _, h => ⟨rfl, h⟩
  | id :: r, m, m', out, h => by
    rw [moR, moR, h.mr]
    split
    · exact ⟨rfl, h.calls⟩
    · exact Alike.mo r _ h.calls

theorem Alike.li {m m' : Sm} (h : Alike m m') : (liR m').1 = (liR m).1 ∧ Alike (liR m).2 (liR m').2 := by
  have h1 := Alike.lo (nsR m).2.1 [] h.calls
  have h2 := Alike.mo (nsR m).2.2 [] h1.2
  rw [liR, liR, h.ns, h1.1, h2.1]
  split
  · exact ⟨rfl, h.calls⟩
  · split
    · exact ⟨rfl, h1.2⟩
    · split
      · exact ⟨rfl, h2.2⟩
      · split
        · exact ⟨rfl, h2.2⟩
        · exact ⟨rfl, h2.2⟩

theorem Alike.refl {m : Sm} (h : m.left = -1) : Alike m m := ⟨rfl, h, h⟩

theorem Alike.lo2 : ∀ (r : List Nat) {m m' : Sm} (out : List Me), Alike m m' → Alike m (loR r m' out).2
  | [], _, _, _, h => h
  | id :: r, m, m', out, h => by
    rw [loR]
    split
    · exact h.call
    · exact Alike.lo2 r _ h.call

theorem Alike.mo2 : ∀ (r : List Nat) {m m' : Sm} (out : List Mk), Alike m m' → Alike m (moR r m' out).2
  | [], _, _, _, h => h
  | id :: r, m, m', out, h => by
    rw [moR]
    split
    · exact h.call
    · exact Alike.mo2 r _ h.call

theorem Alike.li2 {m : Sm} (h : m.left = -1) : Alike m (liR m).2 := by
  have h0 := (Alike.refl h).call
  have h1 := Alike.lo2 (nsR m).2.1 [] h0
  have h2 := Alike.mo2 (nsR m).2.2 [] h1
  rw [liR]
  repeat' split
  all_goals first | exact h0 | exact h1 | exact h2

theorem liR_again {m : Sm} (h : m.left = -1) : (liR (liR m).2).1 = (liR m).1 := (Alike.li2 h).li.1

structure Pl.fine (q : Pl) (N : Nat) : Prop where
  some_ : q.on = true → 0 < q.lv.length + q.mr.length
  lv : ∀ id ∈ q.lv, id < 18446744073709551616
  mr : ∀ id ∈ q.mr, id < 18446744073709551616
  few : q.lv.length + q.mr.length + q.gl.length + q.gk.length ≤ N
  few2 : q.rl.length + q.rk.length ≤ N

theorem Pl.fine.new (N : Nat) : Pl.new.fine N := ⟨(fun h => by cases h), (fun id h => by cases h), (fun id h => by cases h), by simp [Pl.new], by simp [Pl.new]⟩

theorem nsR_few (m : Sm) : (nsR m).2.1.length + (nsR m).2.2.length ≤ m.l.length := by
  have h2 := nsR_len m
  exact h2

theorem plGo_few {m : Sm} {q : Pl} {N : Nat} (h : q.fine N) (hm : m.l.length ≤ N) : (plGo m q).2.lv.length + (plGo m q).2.mr.length + (plGo m q).2.gl.length + (plGo m q).2.gk.length ≤ N ∧ (plGo m q).2.rl.length + (plGo m q).2.rk.length ≤ N ∧
    (∀ id ∈ (plGo m q).2.lv, id < 18446744073709551616) ∧ ∀ id ∈ (plGo m q).2.mr, id < 18446744073709551616 := by
  obtain ⟨on, lv, mr, gl, gk, rl, rk, runs⟩ := q
  have h1 := h.few
  have h2 := h.few2
  have h3 := h.lv
  have h4 := h.mr
  simp only at h1 h2 h3 h4
  cases on with
  | false =>
    rw [plGo_off rfl]
    have h5 := nsR_few m
    have h6 := nsR_lt m
    refine ⟨?_, h2, h6.1, h6.2⟩
    simp only [List.length_nil, Nat.add_zero]
    omega
  | true =>
    cases lv with
    | cons id r =>
      rw [plGo_lv]
      refine ⟨?_, h2, fun x hx => h3 x (List.mem_cons_of_mem _ hx), h4⟩
      simp only [List.length_append, List.length_cons, List.length_nil] at h1 ⊢
      omega
    | nil =>
      cases mr with
      | cons id r =>
        rw [plGo_mk]
        refine ⟨?_, h2, h3, fun x hx => h4 x (List.mem_cons_of_mem _ hx)⟩
        simp only [List.length_append, List.length_cons, List.length_nil] at h1 ⊢
        omega
      | nil => exact absurd (h.some_ rfl) (by simp)

theorem plGo_runs (m : Sm) (q : Pl) : (plGo m q).2.runs = q.runs := by
  unfold plGo
  split
  · rfl
  · split <;> rfl

theorem plStep_fine {m : Sm} {q : Pl} {N : Nat} (h : q.fine N) (hm : m.l.length ≤ N) : (plStep m q).2.2.fine N := by
  obtain ⟨h1, h2, h3, h4⟩ := plGo_few h hm
  rw [plStep]
  generalize (plGo m q).1 = c
  revert h1 h2 h3 h4
  generalize (plGo m q).2 = p
  intro h1 h2 h3 h4
  unfold plEnd
  split
  · exact ⟨(fun h => by cases h), h3, h4, h1, h2⟩
  · split
    · rename_i hp
      exact ⟨fun _ => hp, h3, h4, h1, h2⟩
    · split
      · exact ⟨(fun h => by cases h), h3, h4, h1, h2⟩
      · exact ⟨(fun h => by cases h), h3, h4, h1, by simp only; omega⟩

theorem nsR_code18 (m : Sm) : 0 ≤ (nsR m).1 ∧ (nsR m).1 ≤ 10 := by
  unfold nsR sList
  repeat' split
  all_goals simp

theorem sGet_code18 (m : Sm) (n : List UInt8) : 0 ≤ (sGet m n).2 ∧ (sGet m n).2 ≤ 10 := by
  unfold sGet
  repeat' split
  all_goals simp

theorem meR_code18 (m : Sm) (id : Nat) : 0 ≤ (meR m id).1 ∧ (meR m id).1 ≤ 10 := by
  unfold meR
  split
  · exact sGet_code18 _ _
  · split
    · exact meX_code _
    · split <;> simp

theorem mrR_code18 (m : Sm) (id : Nat) : 0 ≤ (mrR m id).1 ∧ (mrR m id).1 ≤ 10 := by
  unfold mrR
  split
  · exact sGet_code18 _ _
  · split
    · exact mkX_code _
    · split <;> simp

theorem loR_code18 : ∀ (r : List Nat) (m : Sm) (out : List Me), 0 ≤ (loR r m out).1.1 ∧ (loR r m out).1.1 ≤ 10
  | [], _, _ => by simp [loR]
  | id :: r, m, out => by
    rw [loR]
    split
    · exact meR_code18 _ _
    · exact loR_code18 r _ _

theorem moR_code18 : ∀ (r : List Nat) (m : Sm) (out : List Mk), 0 ≤ (moR r m out).1.1 ∧ (moR r m out).1.1 ≤ 10
  | [], _, _ => by simp [moR]
  | id :: r, m, out => by
    rw [moR]
    split
    · exact mrR_code18 _ _
    · exact moR_code18 r _ _

theorem liR_code18 (m : Sm) : 0 ≤ (liR m).1.1 ∧ (liR m).1.1 ≤ 10 := by
  unfold liR
  split
  · exact nsR_code18 _
  · split
    · exact loR_code18 _ _ _
    · split
      · exact moR_code18 _ _ _
      · split <;> simp

theorem loR_fine : ∀ (r : List Nat) {m : Sm} {N : Nat} (out : List Me), m.fine N → (loR r m out).2.fine (N + r.length) ∧ (loR r m out).2.l = m.l
  | [], _, _, _, h => ⟨h, rfl⟩
  | id :: r, m, N, out, h => by
    rw [loR]
    split
    · exact ⟨h.call.more (by simp only [List.length_cons]; omega), rfl⟩
    · have := loR_fine r (out ++ [(meR m id).2]) h.call
      exact ⟨this.1.more (by simp only [List.length_cons]; omega), this.2⟩

theorem moR_fine : ∀ (r : List Nat) {m : Sm} {N : Nat} (out : List Mk), m.fine N → (moR r m out).2.fine (N + r.length) ∧ (moR r m out).2.l = m.l
  | [], _, _, _, h => ⟨h, rfl⟩
  | id :: r, m, N, out, h => by
    rw [moR]
    split
    · exact ⟨h.call.more (by simp only [List.length_cons]; omega), rfl⟩
    · have := moR_fine r (out ++ [(mrR m id).2]) h.call
      exact ⟨this.1.more (by simp only [List.length_cons]; omega), this.2⟩

theorem liR_fine18 {m : Sm} {N : Nat} (h : m.fine N) : (liR m).2.fine (2 * N + 2) ∧ (liR m).2.l = m.l := by
  have h0 := h.call
  have h1 := loR_fine (nsR m).2.1 [] h0
  have h2 := moR_fine (nsR m).2.2 [] h1.1
  have h3 := nsR_len m
  have h4 := h.len
  rw [liR]
  repeat' split
  all_goals first | exact ⟨h0.more (by omega), rfl⟩ | exact ⟨h1.1.more (by omega), h1.2⟩ | exact ⟨h2.1.more (by omega), h2.2.trans h1.2⟩

theorem plStep_code (m : Sm) (q : Pl) : 0 ≤ (plStep m q).2.1 ∧ (plStep m q).2.1 ≤ 10 := by
  have h : 0 ≤ (plGo m q).1 ∧ (plGo m q).1 ≤ 10 := by
    unfold plGo
    split
    · exact nsR_code18 m
    · split
      · exact meR_code18 _ _
      · exact mrR_code18 _ _
      · simp
  rw [plStep]
  unfold plEnd
  split
  · exact h
  · split
    · simp
    · split <;> simp

theorem Nms.put2 {m : Sm} (h : Nms m) (n b : List UInt8) : Nms (sPut m n b).1 := by
  by_cases hn : n.length ≤ 100
  · exact h.put b hn
  · have hb : nameB n = false := by
      cases hc : nameB n with
      | false => rfl
      | true =>
        exfalso
        simp only [nameB, Bool.and_eq_true, decide_eq_true_eq] at hc
        omega
    unfold sPut
    split
    · exact h
    · exact h

theorem Nms.del {m : Sm} (h : Nms m) (n : List UInt8) : Nms (sDel m n).1 := by
  unfold sDel
  split
  · exact h
  · split
    · exact h
    · intro o ho
      rcases List.mem_append.1 ho with h1 | h1
      · exact h o (List.mem_of_mem_take h1)
      · exact h o (List.mem_of_mem_drop h1)

structure PollK (L : World → Prop) (PP : World → (Nat → Prop) → Nat → Nat → Sm → Pl → Prop) : Prop where
  later : ∀ {w w' : World}, L w → Below w.heap.size w w' → L w'
  thing : ∀ (p g : Nat) (m : Sm) (q : Pl), Thing fun w F => PP w F p g m q
  new_nil : ∀ (w : World), Calls Tryz.prog 7 #[.pointer none] w fun e w' => e = .returned (.tuple #[.pointer none, code 1]) ∧ Below w.heap.size w w'
  new : ∀ {w : World} {F : Nat → Prop} {g : Nat} {m : Sm}, PSt w F g m →
    Calls Tryz.prog 7 #[.pointer (some ⟨g, 0, none⟩)] w fun e w' => ∃ (p : Nat) (F' : Nat → Prop), e = .returned (.tuple #[.pointer (some ⟨p, 0, none⟩), .nilIface]) ∧ PP w' F' p g m Pl.new ∧ Goes w F w' F'
  step : ∀ {w : World} {F : Nat → Prop} {p g : Nat} {m : Sm} {q : Pl} {N : Nat}, PP w F p g m q → m.fine N → Nms m → N ≤ 2000 → q.fine 2000 → q.runs ≤ 1000000 → Keep F L w →
    Calls Tryz.prog 9 #[.pointer (some ⟨p, 0, none⟩)] w fun e w' => ∃ F' : Nat → Prop, e = .returned (.tuple #[.bool (plStep m q).1, errV (plStep m q).2.1]) ∧ PP w' F' p g (callS m) (plStep m q).2.2 ∧ Goes w F w' F'
  poll : ∀ {w : World} {F : Nat → Prop} {p g : Nat} {m : Sm} {q : Pl} {N : Nat}, PP w F p g m q → m.fine N → Nms m → N ≤ 1000 → q.on = false → q.fine 2000 → q.runs ≤ 1000 → Keep F L w →
    Calls Tryz.prog 23 #[.pointer (some ⟨p, 0, none⟩)] w fun e w' => ∃ (F' : Nat → Prop) (q' : Pl), e = .returned (errV (liR m).1.1) ∧ PP w' F' p g (liR m).2 q' ∧ PlDone (liR m).1.1 (liR m).1.2.1 (liR m).1.2.2 q q' ∧ q'.fine 2000 ∧ Goes w F w' F'
  ros : ∀ {w : World} {F : Nat → Prop} {p g : Nat} {m : Sm} {q : Pl}, PP w F p g m q → q.fine 2000 →
    Calls Tryz.prog 20 #[.pointer (some ⟨p, 0, none⟩)] w fun e w' => ∃ (a b : Value) (F' : Nat → Prop), e = .returned (roV a b) ∧ PP w' F' p g m q ∧ Goes w F w' F' ∧ Keep (fun x => x < w.heap.size ∨ F' x) (fun u => Mes u a q.rl ∧ Mks u b q.rk) w'
  runs : ∀ {w : World} {F : Nat → Prop} {p g : Nat} {m : Sm} {q : Pl}, PP w F p g m q →
    Calls Tryz.prog 21 #[.pointer (some ⟨p, 0, none⟩)] w fun e w' => ∃ F' : Nat → Prop, e = .returned (.int .i64 (q.runs : Int)) ∧ PP w' F' p g m q ∧ Goes w F w' F'
  store : ∀ {w : World} {F : Nat → Prop} {p g : Nat} {m : Sm} {q : Pl}, PP w F p g m q → ∃ Fs : Nat → Prop, PSt w Fs g m ∧ (∀ x, Fs x → F x) ∧
    ∀ {w' : World} {Fs' : Nat → Prop} {m' : Sm}, PSt w' Fs' g m' → Goes w Fs w' Fs' → ∃ F' : Nat → Prop, PP w' F' p g m' q ∧ Goes w F w' F' ∧ ∀ x, F' x → F x ∨ Fs' x
  list : ∀ {w : World} {F : Nat → Prop} {g : Nat} {m : Sm} {N : Nat}, PSt w F g m → m.fine N → Nms m → N ≤ 3000 → Keep F L w →
    Calls Tryz.prog 24 #[.pointer (some ⟨g, 0, none⟩)] w fun e w' => ∃ (a b : Value) (F' : Nat → Prop), e = .returned (.tuple #[roV a b, errV (liR m).1.1]) ∧ PSt w' F' g (liR m).2 ∧ Goes w F w' F' ∧ Keep (fun q => q < w.heap.size ∨ F' q) (fun u => Mes u a (liR m).1.2.1 ∧ Mks u b (liR m).1.2.2) w'

theorem plStep_empty : plStep ⟨100, -1, 0, []⟩ Pl.new = (true, 0, ⟨false, [], [], [], [], [], [], 1⟩) := by
  rw [plStep, plGo_off rfl, nsR_empty]
  exact plEnd_whole rfl rfl (by simp)

set_option maxHeartbeats 3200000 in
theorem up18_any {L : World → Prop} {PP : World → (Nat → Prop) → Nat → Nat → Sm → Pl → Prop} (hK : PollK L PP) (w : World) (hL : L w) : Calls Tryz.prog 5 #[] w fun e w' => e = .returned (.bool true) ∧ Below w.heap.size w w' := by
  have HLU : Hid (∀ u, Below w.heap.size w u → L u) := Lib.hid fun u hu => hK.later hL hu
  have eqc := eqCode
  clear hL
  go_enter Tryz.func5, Tryz.ntmps5
  go_wp2_with fail
  refine (snew_ok 100 _ (by omega) (by omega)).mono ?_
  rintro e w1 ⟨g, F, rfl, hP1, hb1, hF1⟩
  have hN1 := hK.new hP1
  have HB1 := Lib.hid hb1
  have HF1 := Lib.hid hF1
  clear hb1 hP1 hF1
  go_wp2_with fail
  refine hN1.mono ?_
  rintro e w2 ⟨p, F2, rfl, hP2, hG2⟩
  have HB2 : Hid (Below w.heap.size w w2) := Lib.hid (below_apt HB1.out hG2.apt HF1.out HB1.out.size)
  have HF2 : Hid (∀ q, F2 q → w.heap.size ≤ q) := Lib.hid fun q hq => by
    have := HB1.out.size
    rcases hG2.new q hq with h | h
    · exact HF1.out q h
    · omega
  have HP2 := Lib.hid hP2
  clear hN1 hP2 hG2 HB1 HF1
  go_wp2_with fail
  refine (hK.new_nil w2).mono ?_
  rintro e w3 ⟨rfl, hb3⟩
  have HB3 := Lib.hid (HB2.out.trans (hb3.mono HB2.out.size))
  have HP3 := Lib.hid ((hK.thing _ _ _ _).keep HP2.out (Apt.of_below hb3))
  have hS := hK.step HP3.out (fine_start 100 (by omega) (by omega)) (fun o h => by cases h) (by omega) (Pl.fine.new 2000) (by decide) (Keep.of_old HLU.out HB3.out HF2.out)
  rw [plStep_empty] at hS
  simp only [errV_zero] at hS
  clear hb3 HP2 HB2
  go_wp2_with fail
  refine hS.mono ?_
  rintro e w4 ⟨F4, rfl, hP4, hG4⟩
  have HB4 : Hid (Below w.heap.size w w4) := Lib.hid (below_apt HB3.out hG4.apt HF2.out HB3.out.size)
  have hR := hK.runs hP4
  have HF4 : Hid (∀ q, F4 q → w.heap.size ≤ q) := Lib.hid fun q hq => by
    have := HB3.out.size
    rcases hG4.new q hq with h | h
    · exact HF2.out q h
    · omega
  clear hS hP4 hG4 HP3
  go_wp2_with fail
  refine hR.mono ?_
  rintro e w5 ⟨F5, rfl, _, hG5⟩
  have HB5 : Hid (Below w.heap.size w w5) := Lib.hid (below_apt HB4.out hG5.apt HF4.out HB4.out.size)
  clear hR hG5
  go_wp2_with fail
  go_ret
  exact ⟨rfl, HB5.out⟩

end Go.Proofs.YtgafidnbmoomiaaGreatDoor

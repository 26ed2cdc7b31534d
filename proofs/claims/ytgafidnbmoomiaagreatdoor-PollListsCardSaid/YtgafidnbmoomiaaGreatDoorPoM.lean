/-
  THE PROGRAM's POLLER (layer 18): what stands in its blocks (PPx), and that it keeps what PollK asks (thePoll). Conditions: what each says.
  THE LANDED poll.get, at metas and at markers. Conditions: what each says.
  THE LANDED begin and next: a run of the poller. Conditions: what each says.
  THE LANDED call and Step. Conditions: what each says.
  THE LANDED New, Runs; slices.Clone at metas and at markers. Conditions: what each says.
  THE LANDED Roster. Conditions: what each says.
  THE LANDED POLLER keeps what PollK asks. Conditions: what each says.
-/
import Derived.Test.YtgafidnbmoomiaaGreatDoorPoC
import Derived.Test.YtgafidnbmoomiaaGreatDoorRoM
import Derived.Deep.DeepCutAuto
namespace Go.Proofs.YtgafidnbmoomiaaGreatDoor
open Go.RowKit
set_option maxRecDepth 100000

structure PlR (w : World) (F Fs G : Nat → Prop) (p r : Nat) (v1 v2 v3 v4 : Value) (lv mr : List Nat) (gl : List Me) (gk : List Mk) : Prop where
  blk : Blk w r 80 #[v1, v2, v3, v4]
  us : Keep (fun z => ¬ G z) (fun u => Us u v1 lv ∧ Us u v2 mr) w
  gl : OwnK 6 w 0 85 (fun _ => True) MeC v3 gl
  gk : OwnK 3 w 0 89 (fun _ => True) MkC v4 gk
  fr : F r
  ns : ¬ Fs r
  ng : ¬ G r
  np : r ≠ p
  n3 : ∀ z, v3.ownBlock = some z → F z ∧ ¬ Fs z ∧ ¬ G z ∧ z ≠ p ∧ z ≠ r
  n4 : ∀ z, v4.ownBlock = some z → F z ∧ ¬ Fs z ∧ ¬ G z ∧ z ≠ p ∧ z ≠ r ∧ v3.ownBlock ≠ some z

structure PlC (w : World) (F Fs G : Nat → Prop) (g p : Nat) (m : Sm) (a b : Value) (n : Nat) (rv : Value) (rl : List Me) (rk : List Mk) : Prop where
  st : PSt w Fs g m
  blk : Blk w p 76 #[.pointer (some ⟨g, 0, none⟩), a, b, .int .i64 (n : Int), rv]
  ros : Keep (fun z => ¬ G z) (fun u => Mes u a rl ∧ Mks u b rk) w
  fs : ∀ z, Fs z → F z
  fg : ∀ z, G z → F z
  fp : F p
  ns : ¬ Fs p
  ngp : ¬ G p
  ng : ∀ z, G z → ¬ Fs z
  lt : ∀ z, F z → z < w.heap.size

section
variable {w w' : World} {F Fs G F' : Nat → Prop} {g p r : Nat} {m : Sm} {a b rv v1 v2 v3 v4 : Value} {n : Nat} {rl gl : List Me} {rk gk : List Mk} {lv mr : List Nat}
theorem PlC.keep (h : PlC w F Fs G g p m a b n rv rl rk) (ha : Apt (fun z => ¬ F z) w w') : PlC w' F Fs G g p m a b n rv rl rk :=
  { h with
    st := h.st.keep (ha.mono fun z _ hz hF => hz (h.fs z hF))
    blk := (ha.block _ h.blk.lt fun hn => hn h.fp).trans h.blk
    ros := h.ros.go (ha.mono fun z _ hz hF => hz (h.fg z hF)) fun _ => .inl
    lt := fun z hz => Nat.lt_of_lt_of_le (h.lt z hz) ha.size }

theorem PlR.keep (h : PlR w F Fs G p r v1 v2 v3 v4 lv mr gl gk) (hG : ∀ z, G z → F z) (ha : Apt (fun z => ¬ F z) w w') : PlR w' F Fs G p r v1 v2 v3 v4 lv mr gl gk :=
  { h with
    blk := (ha.block _ h.blk.lt fun hn => hn h.fr).trans h.blk
    us := h.us.go (ha.mono fun z _ hz hF => hz (hG z hF)) fun _ => .inl
    gl := h.gl.apt ha (fun _ _ _ => trivial) (fun z hz hn => hn (h.n3 z hz).1) fun _ => .inl
    gk := h.gk.apt ha (fun _ _ _ => trivial) (fun z hz hn => hn (h.n4 z hz).1) fun _ => .inl }

end

def PPx (w : World) (F : Nat → Prop) (p g : Nat) (m : Sm) (q : Pl) : Prop :=
  ∃ (Fs G : Nat → Prop) (a b rv : Value), PlC w F Fs G g p m a b q.runs rv q.rl q.rk ∧
    ((q.on = false ∧ rv = .pointer none) ∨ (q.on = true ∧ ∃ (r : Nat) (v1 v2 v3 v4 : Value), rv = .pointer (some ⟨r, 0, none⟩) ∧ PlR w F Fs G p r v1 v2 v3 v4 q.lv q.mr q.gl q.gk))

theorem PPx.keep {w w' : World} {F : Nat → Prop} {p g : Nat} {m : Sm} {q : Pl} (h : PPx w F p g m q) (ha : Apt (fun z => ¬ F z) w w') : PPx w' F p g m q := by
  obtain ⟨Fs, G, a, b, rv, h1, h2⟩ := h
  refine ⟨Fs, G, a, b, rv, h1.keep ha, ?_⟩
  rcases h2 with h2 | ⟨h2, r, v1, v2, v3, v4, h3, h4⟩
  · exact .inl h2
  · exact .inr ⟨h2, r, v1, v2, v3, v4, h3, h4.keep h1.fg ha⟩

theorem ppx_thing (p g : Nat) (m : Sm) (q : Pl) : Thing fun w F => PPx w F p g m q := ⟨fun h ha => h.keep ha, fun h => by
  obtain ⟨Fs, G, a, b, rv, h1, h2⟩ := h
  exact h1.lt⟩

theorem plGo_isOn (m : Sm) (q : Pl) : (plGo m q).2.on = true := by
  obtain ⟨on, lv, mr, gl, gk, rl, rk, runs⟩ := q
  cases on with
  | false => rw [plGo_off rfl]
  | true =>
    cases lv with
    | cons id r => rw [plGo_lv]
    | nil =>
      cases mr with
      | cons id r => rw [plGo_mk]
      | nil => rw [plGo, if_neg (by simp)]

theorem plGo_ros (m : Sm) (q : Pl) : (plGo m q).2.rl = q.rl ∧ (plGo m q).2.rk = q.rk := by
  obtain ⟨on, lv, mr, gl, gk, rl, rk, runs⟩ := q
  cases on with
  | false => rw [plGo_off rfl]; exact ⟨rfl, rfl⟩
  | true =>
    cases lv with
    | cons id r => rw [plGo_lv]; exact ⟨rfl, rfl⟩
    | nil =>
      cases mr with
      | cons id r => rw [plGo_mk]; exact ⟨rfl, rfl⟩
      | nil => rw [plGo, if_neg (by simp)]; exact ⟨rfl, rfl⟩

theorem plStep_more {m : Sm} {q : Pl} (h : (plStep m q).1 = false) (k : (plStep m q).2.1 = 0) : (plStep m q).2.2.on = true ∧ (plStep m q).2.2.runs = q.runs := by
  have h1 := plGo_isOn m q
  have h2 := plGo_runs m q
  revert h k
  rw [plStep]
  generalize (plGo m q).1 = c
  revert h1 h2
  generalize (plGo m q).2 = x
  intro h1 h2 h k
  unfold plEnd at h k ⊢
  split at k
  · rename_i hc; exact absurd k hc
  · rename_i hc
    rw [if_neg hc] at h ⊢
    split at k
    · rename_i hl
      rw [if_pos hl]
      exact ⟨h1, h2⟩
    · rename_i hl
      rw [if_neg hl] at h
      split at k
      · cases k
      · rename_i hb
        rw [if_neg hb] at h
        cases h

section
variable {w w' w4 : World} {F Fs G F' Fs' G' bad : Nat → Prop} {g p r : Nat} {m m' : Sm} {a b a' b' rv rv' v1 v2 v3 v4 V V3 V4 : Value} {n n' id : Nat} {rl gl rl' : List Me} {rk gk rk' : List Mk} {lv mr : List Nat} {x : Me} {y : Mk}

theorem Goes.wide18 (h : Goes w Fs w' Fs') (hs : ∀ q, Fs q → F q) : Goes w F w' (fun q => F q ∨ Fs' q) :=
  ⟨h.apt.mono fun q _ hq => hs q hq, fun q hq => hq.elim .inl fun h2 => (h.new q h2).elim (fun h3 => .inl (hs q h3)) .inr⟩

theorem PlC.stored (h : PlC w F Fs G g p m a b n rv rl rk) (hP : PSt w' Fs' g m') (hg : Goes w Fs w' Fs') : PlC w' (fun z => F z ∨ Fs' z) Fs' G g p m' a b n rv rl rk where
  st := hP
  blk := (hg.apt.block _ h.blk.lt h.ns).trans h.blk
  ros := h.ros.go (hg.apt.mono fun z _ hz hG => h.ng z hG hz) fun _ => .inl
  fs := fun z hz => .inr hz
  fg := fun z hz => .inl (h.fg z hz)
  fp := .inl h.fp
  ns := fun hp => (hg.new p hp).elim h.ns fun hh => by have := h.blk.lt; omega
  ngp := h.ngp
  ng := fun z hz hs => (hg.new z hs).elim (h.ng z hz) fun hh => by have := h.lt z (h.fg z hz); omega
  lt := fun z hz => hz.elim (fun h1 => Nat.lt_of_lt_of_le (h.lt z h1) hg.apt.size) (hP.lt z)

theorem PlR.stored (h : PlR w F Fs G p r v1 v2 v3 v4 lv mr gl gk) (hC : PlC w F Fs G g p m a b n rv rl rk) (hg : Goes w Fs w' Fs') : PlR w' (fun z => F z ∨ Fs' z) Fs' G p r v1 v2 v3 v4 lv mr gl gk where
  blk := (hg.apt.block _ h.blk.lt h.ns).trans h.blk
  us := h.us.go (hg.apt.mono fun z _ hz hG => hC.ng z hG hz) fun _ => .inl
  gl := h.gl.apt hg.apt (fun _ _ _ => trivial) (fun z hz => (h.n3 z hz).2.1) fun _ => .inl
  gk := h.gk.apt hg.apt (fun _ _ _ => trivial) (fun z hz => (h.n4 z hz).2.1) fun _ => .inl
  fr := .inl h.fr
  ns := fun hr => (hg.new r hr).elim h.ns fun hh => by have := h.blk.lt; omega
  ng := h.ng
  np := h.np
  n3 := fun z hz => ⟨.inl (h.n3 z hz).1, fun hs => (hg.new z hs).elim (h.n3 z hz).2.1 fun hh => by have := hC.lt z (h.n3 z hz).1; omega, (h.n3 z hz).2.2⟩
  n4 := fun z hz => ⟨.inl (h.n4 z hz).1, fun hs => (hg.new z hs).elim (h.n4 z hz).2.1 fun hh => by have := hC.lt z (h.n4 z hz).1; omega, (h.n4 z hz).2.2⟩

theorem PlC.turn (h : PlC w F Fs G g p m a b n rv rl rk) (ha : Apt bad w w') (hb : ∀ z, z < w.heap.size → bad z → ¬ Fs z ∧ ¬ G z ∧ z ≠ p) (hF : ∀ z, F z → F' z) (hlt : ∀ z, F' z → z < w'.heap.size) : PlC w' F' Fs G g p m a b n rv rl rk where
  st := h.st.keep (ha.mono fun z hz hz2 hs => (hb z hz hz2).1 hs)
  blk := (ha.block _ h.blk.lt fun hp => (hb p h.blk.lt hp).2.2 rfl).trans h.blk
  ros := h.ros.go (ha.mono fun z hz hz2 hg => (hb z hz hz2).2.1 hg) fun _ => .inl
  fs := fun z hz => hF z (h.fs z hz)
  fg := fun z hz => hF z (h.fg z hz)
  fp := hF p h.fp
  ns := h.ns
  ngp := h.ngp
  ng := h.ng
  lt := hlt

theorem PlC.own (h : PlC w F Fs G g p m a b n rv rl rk) (hb : Blk w' p 76 #[.pointer (some ⟨g, 0, none⟩), a', b', .int .i64 (n' : Int), rv']) (hg : w.grownBy w' (some p)) (hr : Keep (fun z => ¬ G z) (fun u => Mes u a' rl' ∧ Mks u b' rk') w) : PlC w' F Fs G g p m a' b' n' rv' rl' rk' := by
  have ha : Apt (fun z => z = p) w w' := Apt.of_grown hg fun q hq => (Option.some.inj hq).symm
  exact { st := h.st.keep (ha.mono fun z _ hz hs => h.ns (hz ▸ hs)), blk := hb, ros := hr.go (ha.mono fun z _ hz hs => h.ngp (hz ▸ hs)) fun _ => .inl, fs := h.fs, fg := h.fg, fp := h.fp, ns := h.ns, ngp := h.ngp, ng := h.ng, lt := fun z hz => Nat.lt_of_lt_of_le (h.lt z hz) ha.size }

theorem PlR.far (h : PlR w F Fs G p r v1 v2 v3 v4 lv mr gl gk) (hC : PlC w F Fs G g p m a b n rv rl rk) (hg : w.grownBy w' (some p)) : PlR w' F Fs G p r v1 v2 v3 v4 lv mr gl gk := by
  have ha : Apt (fun z => z = p) w w' := Apt.of_grown hg fun q hq => (Option.some.inj hq).symm
  exact { h with blk := (ha.block _ h.blk.lt h.np).trans h.blk, us := h.us.go (ha.mono fun z _ hz hs => hC.ngp (hz ▸ hs)) fun _ => .inl, gl := h.gl.apt ha (fun _ _ _ => trivial) (fun z hz => (h.n3 z hz).2.2.2.1) fun _ => .inl, gk := h.gk.apt ha (fun _ _ _ => trivial) (fun z hz => (h.n4 z hz).2.2.2.1) fun _ => .inl }

theorem PlR.grewL (h : PlR w F Fs G p r v1 v2 v3 v4 (id :: lv) mr gl gk) (hC : PlC w F Fs G g p m a b n rv rl rk) (hg : w.grownBy w4 v3.ownBlock) (ho : OwnK 6 w4 0 85 (fun _ => True) MeC V3 (gl ++ [x])) (hv : V3.ownBlock = v3.ownBlock ∨ ∃ z, V3.ownBlock = some z ∧ w.heap.size ≤ z)
    (hV : ∀ u, Us u v1 (id :: lv) → Us u V lv) (hb : Blk w' r 80 #[V, v2, V3, v4]) (hg5 : w4.grownBy w' (some r)) :
    PlR w' (fun z => F z ∨ V3.ownBlock = some z) Fs G p r V v2 V3 v4 lv mr (gl ++ [x]) gk ∧ PlC w' (fun z => F z ∨ V3.ownBlock = some z) Fs G g p m a b n rv rl rk ∧ Goes w F w' (fun z => F z ∨ V3.ownBlock = some z) := by
  have ha : Apt (fun z => v3.ownBlock = some z ∨ z = r) w w' := (Apt.of_grown hg fun q hq => .inl hq).trans (Apt.of_grown hg5 fun q hq => .inr (Option.some.inj hq).symm)
  have hrl := h.blk.lt
  have hlt : ∀ z, (F z ∨ V3.ownBlock = some z) → z < w'.heap.size := fun z hz => hz.elim (fun h1 => Nat.lt_of_lt_of_le (hC.lt z h1) ha.size) fun h1 => Nat.lt_of_lt_of_le (ho.lt z h1).2 hg5.size
  have hV3 : ∀ z, V3.ownBlock = some z → ¬ Fs z ∧ ¬ G z ∧ z ≠ p ∧ z ≠ r := fun z hz => by
    rcases hv with hv | ⟨y, hy, hy2⟩
    · exact (h.n3 z (hv.symm.trans hz)).2
    · have e := Option.some.inj (hy.symm.trans hz)
      subst e
      exact ⟨fun hs => by have := hC.lt y (hC.fs y hs); omega, fun hs => by have := hC.lt y (hC.fg y hs); omega, fun e => by have := hC.blk.lt; omega, fun e => by omega⟩
  have hbad : ∀ z, z < w.heap.size → (v3.ownBlock = some z ∨ z = r) → ¬ Fs z ∧ ¬ G z ∧ z ≠ p := fun z _ hz => by
    rcases hz with hz | rfl
    · have := h.n3 z hz
      exact ⟨this.2.1, this.2.2.1, this.2.2.2.1⟩
    · exact ⟨h.ns, h.ng, h.np⟩
  refine ⟨⟨hb, fun u hu => ?_, ?_, ?_, .inl h.fr, h.ns, h.ng, h.np, fun z hz => ⟨.inr hz, hV3 z hz⟩, fun z hz => ?_⟩, hC.turn ha hbad (fun z => .inl) hlt, ⟨ha.mono fun z _ hz => ?_, fun z hz => ?_⟩⟩
  · have k := h.us.go (ha.mono fun z hz hz2 hG => (hbad z hz hz2).2.1 hG) (fun _ => .inl) u hu
    exact ⟨hV u k.1, k.2⟩
  · exact ho.kept hg5 (.inr fun e => (hV3 r e).2.2.2 rfl) (fun _ _ => trivial) fun _ => .inl
  · exact h.gk.apt ha (fun _ _ _ => trivial) (fun z hz hn => by
      have := h.n4 z hz
      rcases hn with hn | hn
      · exact this.2.2.2.2.2 hn
      · exact this.2.2.2.2.1 hn) fun _ => .inl
  · have k := h.n4 z hz
    refine ⟨.inl k.1, k.2.1, k.2.2.1, k.2.2.2.1, k.2.2.2.2.1, fun e => ?_⟩
    rcases hv with hv | ⟨y, hy, hy2⟩
    · exact k.2.2.2.2.2 (hv.symm.trans e)
    · have e2 := Option.some.inj (hy.symm.trans e)
      have := hC.lt z k.1
      omega
  · rcases hz with hz | rfl
    · exact (h.n3 z hz).1
    · exact h.fr
  · rcases hz with hz | hz
    · exact .inl hz
    · rcases hv with hv | ⟨y, hy, hy2⟩
      · exact .inl (h.n3 z (hv.symm.trans hz)).1
      · exact .inr (by rw [← Option.some.inj (hy.symm.trans hz)]; exact hy2)

theorem PlR.grewK (h : PlR w F Fs G p r v1 v2 v3 v4 lv (id :: mr) gl gk) (hC : PlC w F Fs G g p m a b n rv rl rk) (hg : w.grownBy w4 v4.ownBlock) (ho : OwnK 3 w4 0 89 (fun _ => True) MkC V4 (gk ++ [y])) (hv : V4.ownBlock = v4.ownBlock ∨ ∃ z, V4.ownBlock = some z ∧ w.heap.size ≤ z)
    (hV : ∀ u, Us u v2 (id :: mr) → Us u V mr) (hb : Blk w' r 80 #[v1, V, v3, V4]) (hg5 : w4.grownBy w' (some r)) :
    PlR w' (fun z => F z ∨ V4.ownBlock = some z) Fs G p r v1 V v3 V4 lv mr gl (gk ++ [y]) ∧ PlC w' (fun z => F z ∨ V4.ownBlock = some z) Fs G g p m a b n rv rl rk ∧ Goes w F w' (fun z => F z ∨ V4.ownBlock = some z) := by
  have ha : Apt (fun z => v4.ownBlock = some z ∨ z = r) w w' := (Apt.of_grown hg fun q hq => .inl hq).trans (Apt.of_grown hg5 fun q hq => .inr (Option.some.inj hq).symm)
  have hrl := h.blk.lt
  have hlt : ∀ z, (F z ∨ V4.ownBlock = some z) → z < w'.heap.size := fun z hz => hz.elim (fun h1 => Nat.lt_of_lt_of_le (hC.lt z h1) ha.size) fun h1 => Nat.lt_of_lt_of_le (ho.lt z h1).2 hg5.size
  have hV4 : ∀ z, V4.ownBlock = some z → ¬ Fs z ∧ ¬ G z ∧ z ≠ p ∧ z ≠ r ∧ v3.ownBlock ≠ some z := fun z hz => by
    rcases hv with hv | ⟨y, hy, hy2⟩
    · exact (h.n4 z (hv.symm.trans hz)).2
    · have e := Option.some.inj (hy.symm.trans hz)
      subst e
      exact ⟨fun hs => by have := hC.lt y (hC.fs y hs); omega, fun hs => by have := hC.lt y (hC.fg y hs); omega, fun e => by have := hC.blk.lt; omega, fun e => by omega, fun e => by have := hC.lt y (h.n3 y e).1; omega⟩
  have hbad : ∀ z, z < w.heap.size → (v4.ownBlock = some z ∨ z = r) → ¬ Fs z ∧ ¬ G z ∧ z ≠ p := fun z _ hz => by
    rcases hz with hz | rfl
    · have := h.n4 z hz
      exact ⟨this.2.1, this.2.2.1, this.2.2.2.1⟩
    · exact ⟨h.ns, h.ng, h.np⟩
  refine ⟨⟨hb, fun u hu => ?_, ?_, ?_, .inl h.fr, h.ns, h.ng, h.np, fun z hz => ⟨.inl (h.n3 z hz).1, (h.n3 z hz).2⟩, fun z hz => ⟨.inr hz, hV4 z hz⟩⟩, hC.turn ha hbad (fun z => .inl) hlt, ⟨ha.mono fun z _ hz => ?_, fun z hz => ?_⟩⟩
  · have k := h.us.go (ha.mono fun z hz hz2 hG => (hbad z hz hz2).2.1 hG) (fun _ => .inl) u hu
    exact ⟨k.1, hV u k.2⟩
  · exact h.gl.apt ha (fun _ _ _ => trivial) (fun z hz hn => by
      have := h.n3 z hz
      rcases hn with hn | hn
      · exact (h.n4 z hn).2.2.2.2.2 hz
      · exact this.2.2.2.2 hn) fun _ => .inl
  · exact ho.kept hg5 (.inr fun e => (hV4 r e).2.2.2.1 rfl) (fun _ _ => trivial) fun _ => .inl
  · rcases hz with hz | rfl
    · exact (h.n4 z hz).1
    · exact h.fr
  · rcases hz with hz | hz
    · exact .inl hz
    · rcases hv with hv | ⟨y, hy, hy2⟩
      · exact .inl (h.n4 z (hv.symm.trans hz)).1
      · exact .inr (by rw [← Option.some.inj (hy.symm.trans hz)]; exact hy2)

theorem PlC.whole (hC : PlC w F Fs G g p m a b n rv rl rk) (hR : PlR w F Fs G p r v1 v2 v3 v4 lv mr gl gk) (hb : Blk w' p 76 #[.pointer (some ⟨g, 0, none⟩), v3, v4, .int .i64 (n' : Int), rv']) (hg : w.grownBy w' (some p)) :
    PlC w' F Fs (fun z => G z ∨ v3.ownBlock = some z ∨ v4.ownBlock = some z) g p m v3 v4 n' rv' gl gk := by
  have h2 : PlC w F Fs (fun z => G z ∨ v3.ownBlock = some z ∨ v4.ownBlock = some z) g p m a b n rv rl rk :=
    { hC with
      ros := hC.ros.less fun q hq => .inl fun h => hq (.inl h)
      fg := fun z hz => hz.elim (hC.fg z) fun h => h.elim (fun h => (hR.n3 z h).1) fun h => (hR.n4 z h).1
      ngp := fun hz => hz.elim hC.ngp fun h => h.elim (fun h => (hR.n3 p h).2.2.2.1 rfl) fun h => (hR.n4 p h).2.2.2.1 rfl
      ng := fun z hz => hz.elim (hC.ng z) fun h => h.elim (fun h => (hR.n3 z h).2.1) fun h => (hR.n4 z h).2.1 }
  refine h2.own hb hg fun u hu => ?_
  obtain ⟨xs, o1, o2⟩ := hR.gl
  obtain ⟨ys, k1, k2⟩ := hR.gk
  exact ⟨⟨xs, o1.lv.apt hu fun _ q hq hn => hn (.inr (.inl hq)), o2.mono fun _ _ hk => hk.here⟩, ⟨ys, k1.lv.apt hu fun _ q hq hn => hn (.inr (.inr hq)), k2.mono fun _ _ hk => hk.here⟩⟩

theorem us_first {A : Option Addr} {k c : Nat} {l : List Nat} (h : Us w (.slice A k c) (id :: l)) : k = l.length + 1 ∧ (∃ q o, A = some ⟨q, o, none⟩ ∧ q < w.heap.size ∧ w.cell? ⟨q, o, none⟩ = some (.int .u64 (id : Int))) ∧
    ∃ A' c', (∀ u, (Instr.slice 39 (.slice A k c) (some (.int .i64 1)) none none).run Tryz.prog u = .ok (.slice A' l.length c') u) ∧ ∀ u, Us u (.slice A k c) (id :: l) → Us u (.slice A' l.length c') l := by
  obtain ⟨A', c', hv, h3, _⟩ := h.form
  injection hv with e1 e2 e3
  subst e1 e3
  rw [List.length_cons] at e2 h3
  subst e2
  obtain ⟨q, o, hA, hq, hc⟩ := h.cell (k := 0) (x := id) rfl
  have hs := fun u => run_slice_from (P := Tryz.prog) uT rfl (A := A) 1 (show 1 ≤ l.length + 1 by omega) h3 u
  rw [Nat.add_sub_cancel] at hs
  refine ⟨rfl, ⟨q, o, hA, hq, hc⟩, _, _, hs, fun u hu => ?_⟩
  have h5 := Lv.from_ hu 1 (by omega)
  rw [Nat.add_sub_cancel, ← List.map_drop] at h5
  exact h5

end

set_option maxHeartbeats 1600000 in
theorem pofM_any (mi ml ms mn mp mt : Int) (w : World) :
    Calls Tryz.prog 62 #[.agg #[.int .u64 mi, .int .i64 ml, .int .i64 ms, .int .i64 mn, .int .i64 mp, .int .i64 mt]] w fun e w' => e = .returned (.int .u64 mi) ∧ Below w.heap.size w w' := by
  have HB : Hid (Below w.heap.size w (w.alloc (.cells #[.int .u64 mi, .int .i64 ml, .int .i64 ms, .int .i64 mn, .int .i64 mp, .int .i64 mt] 85))) := Lib.hid ((Below.refl _ _).alloc (Nat.le_refl _) _)
  go_enter Tryz.func62, Tryz.ntmps62
  go_wp2_with fail
  go_ret
  exact ⟨rfl, HB.out⟩

set_option maxHeartbeats 6400000 in
theorem pgetM_any {w : World} {F : Nat → Prop} {g : Nat} {m : Sm} {N : Nat} (id : Nat) (hst : PSt w F g m) (hm : m.fine N) (hN : N ≤ 100000) (hid : id < 18446744073709551616) (hL : Ld w) :
    Calls Tryz.prog 61 #[.pointer (some ⟨g, 0, none⟩), .int .u64 (id : Int), .string (Bstr [109]), .func (.func 58) #[] #[], .func (.func 62) #[] #[]] w fun e w' => e = .returned (.tuple #[meV (meR m id).2, errV (meR m id).1]) ∧ ∃ F', PSt w' F' g (callS m) ∧ Goes w F w' F' := by
  have HFlt := Lib.hid hst.lt
  have hb0 : Below w.heap.size w ((w.alloc (.cells meZ 85)).alloc (.cells meZ 85)) := ((Below.refl _ _).alloc (Nat.le_refl _) _).alloc (by simp) _
  have HR0 : Hid (Blk ((w.alloc (.cells meZ 85)).alloc (.cells meZ 85)) w.heap.size 85 meZ) := Lib.hid ((Blk.new w _ _).alloc _)
  have HZ0 : Hid (Blk ((w.alloc (.cells meZ 85)).alloc (.cells meZ 85)) (w.heap.size + 1) 85 meZ) := Lib.hid (by
    have := Blk.new (w.alloc (.cells meZ 85)) 85 meZ
    simpa using this)
  have HB0 := Lib.hid hb0
  have HP0 := Lib.hid (hst.below hb0)
  have HLD := Lib.hid (hL.below hb0)
  have hget := fun u (hu : PSt u F g m) => stGet_any (n := nmOf id [109] 0) hu hm hN (by rw [nmOf_sort sW_m]; simp [nmHead_length])
  have hlen : (sGet m (nmOf id [109] 0)).1.length ≤ 1048576 := Nat.le_trans (sGet_len _ _) hm.used
  have HRR : Hid (meR m id = if (sGet m (nmOf id [109] 0)).2 ≠ 0 then ((sGet m (nmOf id [109] 0)).2, Me.zero) else if (meX (sGet m (nmOf id [109] 0)).1).1 ≠ 0 then ((meX (sGet m (nmOf id [109] 0)).1).1, Me.zero) else if (meX (sGet m (nmOf id [109] 0)).1).2.id = (id : Int) then (0, (meX (sGet m (nmOf id [109] 0)).1).2) else (2, Me.zero)) := Lib.hid rfl
  generalize (sGet m (nmOf id [109] 0)).1 = sb at hget hlen HRR
  generalize (sGet m (nmOf id [109] 0)).2 = bc at hget HRR
  have hmeta := fun u x (hx : Bs u x sb) => mget_any u hx (by omega)
  generalize (meX sb) = M at hmeta HRR
  obtain ⟨mc, mi, ml, ms, mn, mp, mt⟩ := M
  simp only [meV] at hmeta
  clear hst hL hb0 hm
  go_enter Tryz.func61, Tryz.ntmps61
  go_wp2_with fail
  revert HR0 HZ0 HB0 HP0 HLD
  generalize (w.alloc (.cells meZ 85)).alloc (.cells meZ 85) = w0
  intro HR0 HZ0 HB0 HP0 HLD
  refine (mname_any id [109] 0 _ hid HLD.out).mono ?_
  rintro e w1 ⟨rfl, hb1⟩
  have HR1 := Lib.hid (HR0.out.below hb1 HR0.out.lt)
  have HZ1 := Lib.hid (HZ0.out.below hb1 HZ0.out.lt)
  have HB1 := Lib.hid (HB0.out.trans (hb1.mono HB0.out.size))
  have HP1 := Lib.hid (HP0.out.below hb1)
  clear hb1 HR0 HZ0 HB0 HP0 HLD
  go_wp2_with fail
  refine (hget _ HP1.out).mono ?_
  rintro e w2 ⟨x, F2, rfl, hox, hP2, hA2, hn2, _⟩
  have hnF : ∀ q, w.heap.size ≤ q → ¬ F q := fun q hq hF => by have := HFlt.out q hF; omega
  have HR2 : Hid (Blk w2 w.heap.size 85 meZ) := Lib.hid ((hA2.block _ HR1.out.lt (hnF _ (Nat.le_refl _))).trans HR1.out)
  have HZ2 : Hid (Blk w2 (w.heap.size + 1) 85 meZ) := Lib.hid ((hA2.block _ HZ1.out.lt (hnF _ (Nat.le_succ _))).trans HZ1.out)
  have HNF : Hid (¬ F2 w.heap.size) := Lib.hid fun hF => by
    rcases hn2 _ hF with h | h
    · exact hnF _ (Nat.le_refl _) h
    · have := HR1.out.lt
      omega
  have HG2 : Hid (Goes w F w2 F2) := Lib.hid ((Goes.of_below HB1.out).trans ⟨hA2, hn2⟩)
  have HP2 := Lib.hid hP2
  have HBS := Lib.hid hox.bs
  clear hget hox hP2 hA2 hn2 hnF HR1 HZ1 HB1 HP1
  by_cases hbc : bc = 0
  rotate_left
  · have hce := errV_code hbc
    have HE : Hid (meR m id = (bc, Me.zero)) := Lib.hid (by rw [HRR.out, if_pos hbc])
    rw [hce]
    have hfz := fun i => HR2.out.frozen i
    have r0 := HR2.out.cell 0
    have r1 := HR2.out.cell 1
    have r2 := HR2.out.cell 2
    have r3 := HR2.out.cell 3
    have r4 := HR2.out.cell 4
    have r5 := HR2.out.cell 5
    simp at r0 r1 r2 r3 r4 r5
    have z0 := HZ2.out.cell 0
    have z1 := HZ2.out.cell 1
    have z2 := HZ2.out.cell 2
    have z3 := HZ2.out.cell 3
    have z4 := HZ2.out.cell 4
    have z5 := HZ2.out.cell 5
    simp at z0 z1 z2 z3 z4 z5
    clear hmeta HRR
    go_wp2_with fail
    clear hfz r0 r1 r2 r3 r4 r5 z0 z1 z2 z3 z4 z5
    have hm2 := setall6 _ HR2.out (.int .u64 0) (.int .i64 0) (.int .i64 0) (.int .i64 0) (.int .i64 0) (.int .i64 0)
    have hg2 := gset6 w2 w.heap.size (.int .u64 0) (.int .i64 0) (.int .i64 0) (.int .i64 0) (.int .i64 0) (.int .i64 0)
    refine bodyPost_ret (v := .tuple #[.agg meZ, code bc]) (by have c := hm2.cell; simp [results, go_sem, c]; try rfl) rfl ?_
    refine ⟨?_, F2, HP2.out.keep (Apt.of_grown hg2 fun q hq => by have := Option.some.inj hq; subst this; exact HNF.out), HG2.out.newset hg2 (Nat.le_refl _)⟩
    rw [HE.out]
    rw [show errV (bc, Me.zero).1 = code bc from hce]
    rfl
  subst hbc
  simp only [errV_zero]
  go_wp2_with fail
  refine (hmeta _ _ HBS.out).mono ?_
  rintro e w4 ⟨rfl, hb4⟩
  have HR4 := Lib.hid (HR2.out.below hb4 HR2.out.lt)
  have HZ4 := Lib.hid (HZ2.out.below hb4 HZ2.out.lt)
  have HG4 := Lib.hid (HG2.out.later hb4)
  have HP4 := Lib.hid (HP2.out.below hb4)
  have hb5 : Below w4.heap.size w4 (w4.alloc (.cells #[.int .u64 mi, .int .i64 ml, .int .i64 ms, .int .i64 mn, .int .i64 mp, .int .i64 mt] 85)) := (Below.refl _ _).alloc (Nat.le_refl _) _
  have HT5 : Hid (Blk (w4.alloc (.cells #[.int .u64 mi, .int .i64 ml, .int .i64 ms, .int .i64 mn, .int .i64 mp, .int .i64 mt] 85)) w4.heap.size 85 #[.int .u64 mi, .int .i64 ml, .int .i64 ms, .int .i64 mn, .int .i64 mp, .int .i64 mt]) := Lib.hid (Blk.new _ _ _)
  have HR5 := Lib.hid (HR4.out.below hb5 HR4.out.lt)
  have HZ5 := Lib.hid (HZ4.out.below hb5 HZ4.out.lt)
  have HG5 := Lib.hid (HG4.out.later hb5)
  have HP5 := Lib.hid (HP4.out.below hb5)
  clear hmeta hb4 hb5 HR2 HZ2 HG2 HP2 HBS HR4 HZ4 HG4 HP4
  by_cases hmc : mc = 0
  rotate_left
  · have hce := errV_code hmc
    have HE : Hid (meR m id = (mc, Me.zero)) := Lib.hid (by rw [HRR.out, if_neg (by simp), if_pos hmc])
    rw [hce]
    have hfz := fun i => HR5.out.frozen i
    have r0 := HR5.out.cell 0
    have r1 := HR5.out.cell 1
    have r2 := HR5.out.cell 2
    have r3 := HR5.out.cell 3
    have r4 := HR5.out.cell 4
    have r5 := HR5.out.cell 5
    simp at r0 r1 r2 r3 r4 r5
    have z0 := HZ5.out.cell 0
    have z1 := HZ5.out.cell 1
    have z2 := HZ5.out.cell 2
    have z3 := HZ5.out.cell 3
    have z4 := HZ5.out.cell 4
    have z5 := HZ5.out.cell 5
    simp at z0 z1 z2 z3 z4 z5
    clear HRR
    go_wp2_with fail
    clear hfz r0 r1 r2 r3 r4 r5 z0 z1 z2 z3 z4 z5
    revert HR5 HG5 HP5
    generalize w4.alloc (.cells #[.int .u64 mi, .int .i64 ml, .int .i64 ms, .int .i64 mn, .int .i64 mp, .int .i64 mt] 85) = w5
    intro HR5 HG5 HP5
    have hm2 := setall6 _ HR5.out (.int .u64 0) (.int .i64 0) (.int .i64 0) (.int .i64 0) (.int .i64 0) (.int .i64 0)
    have hg2 := gset6 w5 w.heap.size (.int .u64 0) (.int .i64 0) (.int .i64 0) (.int .i64 0) (.int .i64 0) (.int .i64 0)
    refine bodyPost_ret (v := .tuple #[.agg meZ, code mc]) (by have c := hm2.cell; simp [results, go_sem, c]; try rfl) rfl ?_
    refine ⟨?_, F2, HP5.out.keep (Apt.of_grown hg2 fun q hq => by have := Option.some.inj hq; subst this; exact HNF.out), HG5.out.newset hg2 (Nat.le_refl _)⟩
    rw [HE.out]
    rw [show errV (mc, Me.zero).1 = code mc from hce]
    rfl
  subst hmc
  simp only [errV_zero]

  have t0 := HT5.out.cell 0
  have t1 := HT5.out.cell 1
  have t2 := HT5.out.cell 2
  have t3 := HT5.out.cell 3
  have t4 := HT5.out.cell 4
  have t5 := HT5.out.cell 5
  simp at t0 t1 t2 t3 t4 t5
  have hof := pofM_any mi ml ms mn mp mt
  go_wp2_with fail
  refine (hof _).mono ?_
  rintro e w6 ⟨rfl, hb6⟩
  have HR6 := Lib.hid (HR5.out.below hb6 HR5.out.lt)
  have HZ6 := Lib.hid (HZ5.out.below hb6 HZ5.out.lt)
  have HT6 := Lib.hid (HT5.out.below hb6 HT5.out.lt)
  have HG6 := Lib.hid (HG5.out.later hb6)
  have HP6 := Lib.hid (HP5.out.below hb6)
  clear t0 t1 t2 t3 t4 t5 hof hb6 HR5 HZ5 HT5 HG5 HP5
  have hfz := fun i => HR6.out.frozen i
  have r0 := HR6.out.cell 0
  have r1 := HR6.out.cell 1
  have r2 := HR6.out.cell 2
  have r3 := HR6.out.cell 3
  have r4 := HR6.out.cell 4
  have r5 := HR6.out.cell 5
  simp at r0 r1 r2 r3 r4 r5
  have z0 := HZ6.out.cell 0
  have z1 := HZ6.out.cell 1
  have z2 := HZ6.out.cell 2
  have z3 := HZ6.out.cell 3
  have z4 := HZ6.out.cell 4
  have z5 := HZ6.out.cell 5
  simp at z0 z1 z2 z3 z4 z5
  have t0 := HT6.out.cell 0
  have t1 := HT6.out.cell 1
  have t2 := HT6.out.cell 2
  have t3 := HT6.out.cell 3
  have t4 := HT6.out.cell 4
  have t5 := HT6.out.cell 5
  simp at t0 t1 t2 t3 t4 t5
  by_cases hie : mi = (id : Int)
  rotate_left
  · have hbe : (mi == (id : Int)) = false := by simpa using hie
    have HE : Hid (meR m id = (2, Me.zero)) := Lib.hid (by rw [HRR.out, if_neg (by simp), if_neg (by simp), if_neg hie])
    clear HRR
    go_wp2_with fail
    clear hfz r0 r1 r2 r3 r4 r5 z0 z1 z2 z3 z4 z5 t0 t1 t2 t3 t4 t5
    have hm2 := setall6 _ HR6.out (.int .u64 0) (.int .i64 0) (.int .i64 0) (.int .i64 0) (.int .i64 0) (.int .i64 0)
    have hg2 := gset6 w6 w.heap.size (.int .u64 0) (.int .i64 0) (.int .i64 0) (.int .i64 0) (.int .i64 0) (.int .i64 0)
    refine bodyPost_ret (v := .tuple #[.agg meZ, code 2]) (by have c := hm2.cell; simp [results, go_sem, c]; try rfl) rfl ?_
    refine ⟨?_, F2, HP6.out.keep (Apt.of_grown hg2 fun q hq => by have := Option.some.inj hq; subst this; exact HNF.out), HG6.out.newset hg2 (Nat.le_refl _)⟩
    rw [HE.out]
    rfl
  subst hie
  have HE : Hid (meR m id = (0, ⟨id, ml, ms, mn, mp, mt⟩)) := Lib.hid (by rw [HRR.out, if_neg (by simp), if_neg (by simp), if_pos rfl])
  clear HRR
  go_wp2_with fail
  clear hfz r0 r1 r2 r3 r4 r5 z0 z1 z2 z3 z4 z5 t0 t1 t2 t3 t4 t5
  have hm2 := setall6 _ HR6.out (.int .u64 id) (.int .i64 ml) (.int .i64 ms) (.int .i64 mn) (.int .i64 mp) (.int .i64 mt)
  have hg2 := gset6 w6 w.heap.size (.int .u64 id) (.int .i64 ml) (.int .i64 ms) (.int .i64 mn) (.int .i64 mp) (.int .i64 mt)
  refine bodyPost_ret (v := .tuple #[.agg #[.int .u64 id, .int .i64 ml, .int .i64 ms, .int .i64 mn, .int .i64 mp, .int .i64 mt], .nilIface]) (by have c := hm2.cell; simp [results, go_sem, c]; try rfl) rfl ?_
  refine ⟨?_, F2, HP6.out.keep (Apt.of_grown hg2 fun q hq => by have := Option.some.inj hq; subst this; exact HNF.out), HG6.out.newset hg2 (Nat.le_refl _)⟩
  rw [HE.out]
  rfl

set_option maxHeartbeats 1600000 in
theorem pofK_any (mi ma mb : Int) (w : World) :
    Calls Tryz.prog 64 #[.agg #[.int .u64 mi, .int .i64 ma, .int .u64 mb]] w fun e w' => e = .returned (.int .u64 mi) ∧ Below w.heap.size w w' := by
  have HB : Hid (Below w.heap.size w (w.alloc (.cells #[.int .u64 mi, .int .i64 ma, .int .u64 mb] 89))) := Lib.hid ((Below.refl _ _).alloc (Nat.le_refl _) _)
  go_enter Tryz.func64, Tryz.ntmps64
  go_wp2_with fail
  go_ret
  exact ⟨rfl, HB.out⟩

set_option maxHeartbeats 6400000 in
theorem pgetK_any {w : World} {F : Nat → Prop} {g : Nat} {m : Sm} {N : Nat} (id : Nat) (hst : PSt w F g m) (hm : m.fine N) (hN : N ≤ 100000) (hid : id < 18446744073709551616) (hL : Ld w) :
    Calls Tryz.prog 63 #[.pointer (some ⟨g, 0, none⟩), .int .u64 (id : Int), .string (Bstr [120]), .func (.func 60) #[] #[], .func (.func 64) #[] #[]] w fun e w' => e = .returned (.tuple #[mkV (mrR m id).2, errV (mrR m id).1]) ∧ ∃ F', PSt w' F' g (callS m) ∧ Goes w F w' F' := by
  have HFlt := Lib.hid hst.lt
  have hb0 : Below w.heap.size w ((w.alloc (.cells mkZ 89)).alloc (.cells mkZ 89)) := ((Below.refl _ _).alloc (Nat.le_refl _) _).alloc (by simp) _
  have HR0 : Hid (Blk ((w.alloc (.cells mkZ 89)).alloc (.cells mkZ 89)) w.heap.size 89 mkZ) := Lib.hid ((Blk.new w _ _).alloc _)
  have HZ0 : Hid (Blk ((w.alloc (.cells mkZ 89)).alloc (.cells mkZ 89)) (w.heap.size + 1) 89 mkZ) := Lib.hid (by
    have := Blk.new (w.alloc (.cells mkZ 89)) 89 mkZ
    simpa using this)
  have HB0 := Lib.hid hb0
  have HP0 := Lib.hid (hst.below hb0)
  have HLD := Lib.hid (hL.below hb0)
  have hget := fun u (hu : PSt u F g m) => stGet_any (n := nmOf id [120] 0) hu hm hN (by rw [nmOf_sort sortW_x]; simp [nmHead_length])
  have hlen : (sGet m (nmOf id [120] 0)).1.length ≤ 1048576 := Nat.le_trans (sGet_len _ _) hm.used
  have HRR : Hid (mrR m id = if (sGet m (nmOf id [120] 0)).2 ≠ 0 then ((sGet m (nmOf id [120] 0)).2, Mk.zero) else if (mkX (sGet m (nmOf id [120] 0)).1).1 ≠ 0 then ((mkX (sGet m (nmOf id [120] 0)).1).1, Mk.zero) else if (mkX (sGet m (nmOf id [120] 0)).1).2.id = (id : Int) then (0, (mkX (sGet m (nmOf id [120] 0)).1).2) else (2, Mk.zero)) := Lib.hid rfl
  generalize (sGet m (nmOf id [120] 0)).1 = sb at hget hlen HRR
  generalize (sGet m (nmOf id [120] 0)).2 = bc at hget HRR
  have hmeta := fun u x (hx : Bs u x sb) => mmarked_any u hx (by omega)
  generalize (mkX sb) = M at hmeta HRR
  obtain ⟨mc, mi, ma, mb⟩ := M
  simp only [mkV] at hmeta
  clear hst hL hb0 hm
  go_enter Tryz.func63, Tryz.ntmps63
  go_wp2_with fail
  revert HR0 HZ0 HB0 HP0 HLD
  generalize (w.alloc (.cells mkZ 89)).alloc (.cells mkZ 89) = w0
  intro HR0 HZ0 HB0 HP0 HLD
  refine (mname_any id [120] 0 _ hid HLD.out).mono ?_
  rintro e w1 ⟨rfl, hb1⟩
  have HR1 := Lib.hid (HR0.out.below hb1 HR0.out.lt)
  have HZ1 := Lib.hid (HZ0.out.below hb1 HZ0.out.lt)
  have HB1 := Lib.hid (HB0.out.trans (hb1.mono HB0.out.size))
  have HP1 := Lib.hid (HP0.out.below hb1)
  clear hb1 HR0 HZ0 HB0 HP0 HLD
  go_wp2_with fail
  refine (hget _ HP1.out).mono ?_
  rintro e w2 ⟨x, F2, rfl, hox, hP2, hA2, hn2, _⟩
  have hnF : ∀ q, w.heap.size ≤ q → ¬ F q := fun q hq hF => by have := HFlt.out q hF; omega
  have HR2 : Hid (Blk w2 w.heap.size 89 mkZ) := Lib.hid ((hA2.block _ HR1.out.lt (hnF _ (Nat.le_refl _))).trans HR1.out)
  have HZ2 : Hid (Blk w2 (w.heap.size + 1) 89 mkZ) := Lib.hid ((hA2.block _ HZ1.out.lt (hnF _ (Nat.le_succ _))).trans HZ1.out)
  have HNF : Hid (¬ F2 w.heap.size) := Lib.hid fun hF => by
    rcases hn2 _ hF with h | h
    · exact hnF _ (Nat.le_refl _) h
    · have := HR1.out.lt
      omega
  have HG2 : Hid (Goes w F w2 F2) := Lib.hid ((Goes.of_below HB1.out).trans ⟨hA2, hn2⟩)
  have HP2 := Lib.hid hP2
  have HBS := Lib.hid hox.bs
  clear hget hox hP2 hA2 hn2 hnF HR1 HZ1 HB1 HP1
  by_cases hbc : bc = 0
  rotate_left
  · have hce := errV_code hbc
    have HE : Hid (mrR m id = (bc, Mk.zero)) := Lib.hid (by rw [HRR.out, if_pos hbc])
    rw [hce]
    have hfz := fun i => HR2.out.frozen i
    have r0 := HR2.out.cell 0
    have r1 := HR2.out.cell 1
    have r2 := HR2.out.cell 2
    simp at r0 r1 r2
    have z0 := HZ2.out.cell 0
    have z1 := HZ2.out.cell 1
    have z2 := HZ2.out.cell 2
    simp at z0 z1 z2
    clear hmeta HRR
    go_wp2_with fail
    clear hfz r0 r1 r2 z0 z1 z2
    have hm2 := setall3 _ HR2.out (.int .u64 0) (.int .i64 0) (.int .u64 0)
    have hg2 := gset3 w2 w.heap.size (.int .u64 0) (.int .i64 0) (.int .u64 0)
    refine bodyPost_ret (v := .tuple #[.agg mkZ, code bc]) (by have c := hm2.cell; simp [results, go_sem, c]; try rfl) rfl ?_
    refine ⟨?_, F2, HP2.out.keep (Apt.of_grown hg2 fun q hq => by have := Option.some.inj hq; subst this; exact HNF.out), HG2.out.newset hg2 (Nat.le_refl _)⟩
    rw [HE.out]
    rw [show errV (bc, Mk.zero).1 = code bc from hce]
    rfl
  subst hbc
  simp only [errV_zero]
  go_wp2_with fail
  refine (hmeta _ _ HBS.out).mono ?_
  rintro e w4 ⟨rfl, hb4⟩
  have HR4 := Lib.hid (HR2.out.below hb4 HR2.out.lt)
  have HZ4 := Lib.hid (HZ2.out.below hb4 HZ2.out.lt)
  have HG4 := Lib.hid (HG2.out.later hb4)
  have HP4 := Lib.hid (HP2.out.below hb4)
  have hb5 : Below w4.heap.size w4 (w4.alloc (.cells #[.int .u64 mi, .int .i64 ma, .int .u64 mb] 89)) := (Below.refl _ _).alloc (Nat.le_refl _) _
  have HT5 : Hid (Blk (w4.alloc (.cells #[.int .u64 mi, .int .i64 ma, .int .u64 mb] 89)) w4.heap.size 89 #[.int .u64 mi, .int .i64 ma, .int .u64 mb]) := Lib.hid (Blk.new _ _ _)
  have HR5 := Lib.hid (HR4.out.below hb5 HR4.out.lt)
  have HZ5 := Lib.hid (HZ4.out.below hb5 HZ4.out.lt)
  have HG5 := Lib.hid (HG4.out.later hb5)
  have HP5 := Lib.hid (HP4.out.below hb5)
  clear hmeta hb4 hb5 HR2 HZ2 HG2 HP2 HBS HR4 HZ4 HG4 HP4
  by_cases hmc : mc = 0
  rotate_left
  · have hce := errV_code hmc
    have HE : Hid (mrR m id = (mc, Mk.zero)) := Lib.hid (by rw [HRR.out, if_neg (by simp), if_pos hmc])
    rw [hce]
    have hfz := fun i => HR5.out.frozen i
    have r0 := HR5.out.cell 0
    have r1 := HR5.out.cell 1
    have r2 := HR5.out.cell 2
    simp at r0 r1 r2
    have z0 := HZ5.out.cell 0
    have z1 := HZ5.out.cell 1
    have z2 := HZ5.out.cell 2
    simp at z0 z1 z2
    clear HRR
    go_wp2_with fail
    clear hfz r0 r1 r2 z0 z1 z2
    revert HR5 HG5 HP5
    generalize w4.alloc (.cells #[.int .u64 mi, .int .i64 ma, .int .u64 mb] 89) = w5
    intro HR5 HG5 HP5
    have hm2 := setall3 _ HR5.out (.int .u64 0) (.int .i64 0) (.int .u64 0)
    have hg2 := gset3 w5 w.heap.size (.int .u64 0) (.int .i64 0) (.int .u64 0)
    refine bodyPost_ret (v := .tuple #[.agg mkZ, code mc]) (by have c := hm2.cell; simp [results, go_sem, c]; try rfl) rfl ?_
    refine ⟨?_, F2, HP5.out.keep (Apt.of_grown hg2 fun q hq => by have := Option.some.inj hq; subst this; exact HNF.out), HG5.out.newset hg2 (Nat.le_refl _)⟩
    rw [HE.out]
    rw [show errV (mc, Mk.zero).1 = code mc from hce]
    rfl
  subst hmc
  simp only [errV_zero]

  have t0 := HT5.out.cell 0
  have t1 := HT5.out.cell 1
  have t2 := HT5.out.cell 2
  simp at t0 t1 t2
  have hof := pofK_any mi ma mb
  go_wp2_with fail
  refine (hof _).mono ?_
  rintro e w6 ⟨rfl, hb6⟩
  have HR6 := Lib.hid (HR5.out.below hb6 HR5.out.lt)
  have HZ6 := Lib.hid (HZ5.out.below hb6 HZ5.out.lt)
  have HT6 := Lib.hid (HT5.out.below hb6 HT5.out.lt)
  have HG6 := Lib.hid (HG5.out.later hb6)
  have HP6 := Lib.hid (HP5.out.below hb6)
  clear t0 t1 t2 hof hb6 HR5 HZ5 HT5 HG5 HP5
  have hfz := fun i => HR6.out.frozen i
  have r0 := HR6.out.cell 0
  have r1 := HR6.out.cell 1
  have r2 := HR6.out.cell 2
  simp at r0 r1 r2
  have z0 := HZ6.out.cell 0
  have z1 := HZ6.out.cell 1
  have z2 := HZ6.out.cell 2
  simp at z0 z1 z2
  have t0 := HT6.out.cell 0
  have t1 := HT6.out.cell 1
  have t2 := HT6.out.cell 2
  simp at t0 t1 t2
  by_cases hie : mi = (id : Int)
  rotate_left
  · have hbe : (mi == (id : Int)) = false := by simpa using hie
    have HE : Hid (mrR m id = (2, Mk.zero)) := Lib.hid (by rw [HRR.out, if_neg (by simp), if_neg (by simp), if_neg hie])
    clear HRR
    go_wp2_with fail
    clear hfz r0 r1 r2 z0 z1 z2 t0 t1 t2
    have hm2 := setall3 _ HR6.out (.int .u64 0) (.int .i64 0) (.int .u64 0)
    have hg2 := gset3 w6 w.heap.size (.int .u64 0) (.int .i64 0) (.int .u64 0)
    refine bodyPost_ret (v := .tuple #[.agg mkZ, code 2]) (by have c := hm2.cell; simp [results, go_sem, c]; try rfl) rfl ?_
    refine ⟨?_, F2, HP6.out.keep (Apt.of_grown hg2 fun q hq => by have := Option.some.inj hq; subst this; exact HNF.out), HG6.out.newset hg2 (Nat.le_refl _)⟩
    rw [HE.out]
    rfl
  subst hie
  have HE : Hid (mrR m id = (0, ⟨id, ma, mb⟩)) := Lib.hid (by rw [HRR.out, if_neg (by simp), if_neg (by simp), if_pos rfl])
  clear HRR
  go_wp2_with fail
  clear hfz r0 r1 r2 z0 z1 z2 t0 t1 t2
  have hm2 := setall3 _ HR6.out (.int .u64 id) (.int .i64 ma) (.int .u64 mb)
  have hg2 := gset3 w6 w.heap.size (.int .u64 id) (.int .i64 ma) (.int .u64 mb)
  refine bodyPost_ret (v := .tuple #[.agg #[.int .u64 id, .int .i64 ma, .int .u64 mb], .nilIface]) (by have c := hm2.cell; simp [results, go_sem, c]; try rfl) rfl ?_
  refine ⟨?_, F2, HP6.out.keep (Apt.of_grown hg2 fun q hq => by have := Option.some.inj hq; subst this; exact HNF.out), HG6.out.newset hg2 (Nat.le_refl _)⟩
  rw [HE.out]
  rfl

set_option maxHeartbeats 3200000 in
theorem pbegin_any {w : World} {F Fs G : Nat → Prop} {g p : Nat} {m : Sm} {a b rv : Value} {n N : Nat} {rl : List Me} {rk : List Mk} (hC : PlC w F Fs G g p m a b n rv rl rk) (hm : m.fine N) (hns : Nms m) (hN : N ≤ 3000) (hL : Keep F LdP w) :
    Calls Tryz.prog 44 #[.pointer (some ⟨g, 0, none⟩)] w fun e w' => ∃ (ro : Option Addr), e = .returned (.tuple #[.pointer ro, errV (nsR m).1]) ∧ ∃ (F' Fs' G' : Nat → Prop), PlC w' F' Fs' G' g p (callS m) a b n rv rl rk ∧ Goes w F w' F' ∧
      ((nsR m).1 = 0 → ∃ (r : Nat) (v1 v2 v3 v4 : Value), ro = some ⟨r, 0, none⟩ ∧ PlR w' F' Fs' G' p r v1 v2 v3 v4 (nsR m).2.1 (nsR m).2.2 [] []) := by
  have hcal := rnames_any hC.st hm hns hN (hL.less fun q hq => .inl (hC.fs q hq))
  have HC := Lib.hid hC
  clear hC hm hns hL
  generalize nsR m = nm at hcal
  obtain ⟨bc, live, marked⟩ := nm
  simp only at hcal ⊢
  go_enter Tryz.func44, Tryz.ntmps44
  go_wp2_with fail
  refine hcal.mono ?_
  rintro e w1 ⟨la, lb, Fs1, rfl, hP1, hG1, hU1⟩
  have HC1 := Lib.hid (HC.out.stored hP1 hG1)
  have HG1 := Lib.hid (hG1.wide18 HC.out.fs)
  have HU1 := Lib.hid hU1
  have HF := Lib.hid HC.out.lt
  have HS1 := Lib.hid hG1.apt.size
  obtain ⟨A1, c1, rfl, _, _⟩ := hU1.here.1.form
  obtain ⟨A2, c2, rfl, _, _⟩ := hU1.here.2.form
  clear hcal hP1 hG1 hU1 HC
  by_cases hbc : bc = 0
  rotate_left
  · rw [errV_code hbc]
    go_wp2_with fail
    go_ret2
    exact ⟨none, by rw [errV_code hbc]; rfl, _, _, _, HC1.out, HG1.out, fun h => absurd h hbc⟩
  subst hbc
  simp only [errV_zero]
  go_wp2_with fail
  go_ret2
  have hb2 : Below w1.heap.size w1 (w1.alloc (.cells #[.slice A1 live.length c1, .slice A2 marked.length c2, .slice none 0 0, .slice none 0 0] 80)) := (Below.refl _ _).alloc (Nat.le_refl _) _
  have hR2 : Blk (w1.alloc (.cells #[.slice A1 live.length c1, .slice A2 marked.length c2, .slice none 0 0, .slice none 0 0] 80)) w1.heap.size 80 #[.slice A1 live.length c1, .slice A2 marked.length c2, .slice none 0 0, .slice none 0 0] := Blk.new _ _ _
  have hpl := HC1.out.blk.lt
  have hsz : (w1.alloc (.cells #[.slice A1 live.length c1, .slice A2 marked.length c2, .slice none 0 0, .slice none 0 0] 80)).heap.size = w1.heap.size + 1 := by simp
  have hpw : p < w.heap.size := by
    rcases HC1.out.fp with h | h
    · exact HF.out p h
    · exact absurd h HC1.out.ns
  refine ⟨some ⟨w1.heap.size, 0, none⟩, rfl, fun z => (F z ∨ Fs1 z) ∨ (w.heap.size ≤ z ∧ z ≤ w1.heap.size), Fs1, fun z => G z ∨ (w.heap.size ≤ z ∧ z < w1.heap.size ∧ ¬ Fs1 z), ?_, ?_, ⟨w1.heap.size, rfl, .slice A1 live.length c1, .slice A2 marked.length c2, .slice none 0 0, .slice none 0 0, ?_⟩⟩
  · have h2 := HC1.out.turn (bad := fun _ => False) (w' := w1.alloc (.cells #[.slice A1 live.length c1, .slice A2 marked.length c2, .slice none 0 0, .slice none 0 0] 80)) (F' := fun z => (F z ∨ Fs1 z) ∨ (w.heap.size ≤ z ∧ z ≤ w1.heap.size)) (Apt.of_below hb2) (fun _ _ h => h.elim) (fun z h => .inl h) fun z hz => by
      rcases hz with h | h
      · have := HC1.out.lt z h
        omega
      · omega
    exact { h2 with
      ros := h2.ros.less fun q hq => .inl fun hG => hq (.inl hG)
      fg := fun z hz => hz.elim (fun h => h2.fg z h) fun h => .inr ⟨h.1, by omega⟩
      ngp := fun hp => hp.elim h2.ngp fun h => by omega
      ng := fun z hz hs => hz.elim (fun h => h2.ng z h hs) fun h => h.2.2 hs }
  · refine (HG1.out.later hb2).more fun q hq => ?_
    rcases hq with h | h
    · exact .inl h
    · exact .inr (.inr h.1)
  · refine ⟨hR2, HU1.out.go (Apt.of_below hb2) fun q hq => ?_, OwnK.nil _ _ _ _ _ _, OwnK.nil _ _ _ _ _ _, .inr ⟨HS1.out, Nat.le_refl _⟩, fun h => ?_, fun h => ?_, fun e => by omega, (fun z hz => by cases hz), (fun z hz => by cases hz)⟩
    · by_cases h1 : q < w.heap.size
      · exact .inl (.inl h1)
      · by_cases h2 : Fs1 q
        · exact .inl (.inr h2)
        · by_cases h3 : q < w1.heap.size
          · exact absurd (.inr ⟨by have : ¬ q < w.heap.size := h1; omega, h3, h2⟩) hq
          · exact .inr (by omega)
    · have := HC1.out.lt _ (HC1.out.fs _ h)
      omega
    · rcases h with h | h
      · have := HC1.out.lt _ (HC1.out.fg _ h)
        omega
      · omega

set_option maxHeartbeats 12800000 in
theorem pnextL_any {w : World} {F Fs G : Nat → Prop} {g p r : Nat} {m : Sm} {a b rv v1 v2 v3 v4 : Value} {n N id : Nat} {rl gl : List Me} {rk gk : List Mk} {lv mr : List Nat} (hC : PlC w F Fs G g p m a b n rv rl rk) (hR : PlR w F Fs G p r v1 v2 v3 v4 (id :: lv) mr gl gk)
    (hm : m.fine N) (hN : N ≤ 100000) (hid : id < 18446744073709551616) (hgl : gl.length ≤ 10000) (hL : Ld w) :
    Calls Tryz.prog 45 #[.pointer (some ⟨r, 0, none⟩), .pointer (some ⟨g, 0, none⟩)] w fun e w' => e = .returned (errV (meR m id).1) ∧ ∃ (F' Fs' : Nat → Prop), PlC w' F' Fs' G g p (callS m) a b n rv rl rk ∧ Goes w F w' F' ∧
      ((meR m id).1 = 0 → ∃ (v1' v3' : Value), PlR w' F' Fs' G p r v1' v2 v3' v4 lv mr (gl ++ [(meR m id).2]) gk) := by
  have hcal := pgetM_any id hC.st hm hN hid hL
  have HOK := Lib.hid (meR_ok m id)
  have HC := Lib.hid hC
  have HR := Lib.hid hR
  obtain ⟨A1, c1, hv1, _, _⟩ := hR.us.here.1.form
  obtain ⟨A2, c2, hv2, _, _⟩ := hR.us.here.2.form
  obtain ⟨A3, c3, hv3, _, _⟩ := hR.gl.form
  obtain ⟨A4, c4, hv4, _, _⟩ := hR.gk.form
  rw [List.length_cons] at hv1
  subst hv1
  obtain ⟨_, ⟨q0, o0, rfl, hq0, x0⟩, A5, c5, hsl, hVt⟩ := us_first hR.us.here.1
  generalize hl2 : mr.length = l2 at hv2
  generalize hl3 : gl.length = l3 at hv3
  generalize hl4 : gk.length = l4 at hv4
  subst hv2 hv3 hv4
  have HL3 := Lib.hid hl3
  clear hl2 hl3 hl4
  have HSL := Lib.hid hsl
  have HVT := Lib.hid hVt
  have r0 := hR.blk.cell 0
  have r1 := hR.blk.cell 1
  simp at r0 r1
  generalize meR m id = mr0 at hcal HOK
  obtain ⟨mc, mi, ml, ms, mn, mp, mt⟩ := mr0
  simp only [meV] at hcal HOK
  simp only
  clear hC hR hm hL hsl hVt
  go_enter Tryz.func45, Tryz.ntmps45
  go_wp2_with fail
  refine hcal.mono ?_
  rintro e w1 ⟨rfl, Fs1, hP1, hG1⟩
  have hC1 := HC.out.stored hP1 hG1
  have hR1 := HR.out.stored HC.out hG1
  have hb2 : Below w1.heap.size w1 (w1.alloc (.cells #[.int .u64 mi, .int .i64 ml, .int .i64 ms, .int .i64 mn, .int .i64 mp, .int .i64 mt] 85)) := (Below.refl _ _).alloc (Nat.le_refl _) _
  have HC2 := Lib.hid (hC1.keep (Apt.of_below hb2))
  have HR2 := Lib.hid (hR1.keep hC1.fg (Apt.of_below hb2))
  have HG2 := Lib.hid ((hG1.wide18 HC.out.fs).later hb2)
  have HT2 : Hid (Blk (w1.alloc (.cells #[.int .u64 mi, .int .i64 ml, .int .i64 ms, .int .i64 mn, .int .i64 mp, .int .i64 mt] 85)) w1.heap.size 85 #[.int .u64 mi, .int .i64 ml, .int .i64 ms, .int .i64 mn, .int .i64 mp, .int .i64 mt]) := Lib.hid (Blk.new _ _ _)
  have HTN : Hid (∀ z, (F z ∨ Fs1 z) → z ≠ w1.heap.size) := Lib.hid fun z hz e => by have := hC1.lt z hz; omega
  clear hcal hP1 hG1 hC1 hR1 hb2 HC HR r0 r1 x0 hq0
  by_cases hmc : mc = 0
  rotate_left
  · rw [errV_code hmc]
    go_wp2_with fail
    go_ret
    exact ⟨by rw [errV_code hmc]; rfl, _, _, HC2.out, HG2.out, fun h => absurd h hmc⟩
  subst hmc
  simp only [errV_zero]
  go_wp2_with fail
  revert HC2 HR2 HG2 HT2
  generalize hw2 : (w1.alloc (.cells #[.int .u64 mi, .int .i64 ml, .int .i64 ms, .int .i64 mn, .int .i64 mp, .int .i64 mt] 85)) = w2
  generalize w1.heap.size = g1 at *
  clear hw2
  intro HC2 HR2 HG2 HT2
  have hS : Hid (∀ u, Apt (fun z => (Value.slice A3 l3 c3).ownBlock = some z) w2 u → u.cell? ⟨r, 0, none⟩ = some (.slice (some ⟨q0, o0, none⟩) (lv.length + 1) c1) ∧ u.cell? ⟨r, 2, none⟩ = some (Value.slice A3 l3 c3) ∧ u.cell? ⟨g1, 0, none⟩ = some (.int .u64 mi) ∧ u.cell? ⟨g1, 1, none⟩ = some (.int .i64 ml) ∧ u.cell? ⟨g1, 2, none⟩ = some (.int .i64 ms) ∧ u.cell? ⟨g1, 3, none⟩ = some (.int .i64 mn) ∧ u.cell? ⟨g1, 4, none⟩ = some (.int .i64 mp) ∧ u.cell? ⟨g1, 5, none⟩ = some (.int .i64 mt)) := Lib.hid fun u hu => by
    have hbr : Blk u r 80 #[.slice (some ⟨q0, o0, none⟩) (lv.length + 1) c1, .slice A2 l2 c2, .slice A3 l3 c3, .slice A4 l4 c4] := (hu.block _ HR2.out.blk.lt fun e => (HR2.out.n3 r e).2.2.2.2 rfl).trans HR2.out.blk
    have hbt : Blk u g1 85 #[.int .u64 mi, .int .i64 ml, .int .i64 ms, .int .i64 mn, .int .i64 mp, .int .i64 mt] := (hu.block _ HT2.out.lt fun e => HTN.out g1 (HR2.out.n3 g1 e).1 rfl).trans HT2.out
    have c0 := hbr.cell 0
    have c2 := hbr.cell 2
    have d0 := hbt.cell 0
    have d1 := hbt.cell 1
    have d2 := hbt.cell 2
    have d3 := hbt.cell 3
    have d4 := hbt.cell 4
    have d5 := hbt.cell 5
    simp at c0 c2 d0 d1 d2 d3 d4 d5
    exact ⟨c0, c2, d0, d1, d2, d3, d4, d5⟩
  have hsl := HSL.out
  have HRW := Lib.hid HR2.out.gl
  have HFR := Lib.hid HR2.out.blk.lt
  have hr1 : ∀ u i, Blk u r 80 #[.slice (some ⟨q0, o0, none⟩) (lv.length + 1) c1, .slice A2 l2 c2, .slice A3 l3 c3, .slice A4 l4 c4] → u.frozen? ⟨r, i, none⟩ = false := fun u i hb => hb.frozen i
  refine wp_region_mix3 17 [(0, 0), (1, 3), (2, 0), (3, 0), (4, 0), (5, 0), (6, 0), (7, 0), (8, 0), (9, 0), (10, 0), (11, 0), (12, 0), (13, 1), (14, 1), (15, 0), (16, 0), (17, 2), (18, 3), (19, 3), (20, 3), (21, 2)] (fun u => Apt (fun z => (Value.slice A3 l3 c3).ownBlock = some z) w2 u) (by kernel_rfl) (by kernel_rfl) (by decide +kernel) rfl (Apt.of_below (Below.refl _ _).drew) ?_
  (refine mix3_read (o := ⟨_, _, _, _, _, _⟩) (v := ?_) rfl (by rfl) (fun w' hU => ?_) ?_
   rotate_left
   obtain ⟨hU1, hU2, hD0, hD1, hD2, hD3, hD4, hD5⟩ := hS.out _ hU
   go_simp
   with_reducible rfl
   try simp only [Act.put, List.setIfInBounds_toArray, List.set_cons_zero, List.set_cons_succ])
  (refine mix3_free (o := ⟨_, _, _, _, _, _⟩) (v := ?_) rfl (by rfl) (fun w' => ?_) ?_
   rotate_left
   go_simp
   with_reducible rfl
   try simp only [Act.put, List.setIfInBounds_toArray, List.set_cons_zero, List.set_cons_succ])
  repeat
    (refine mix3_read (o := ⟨_, _, _, _, _, _⟩) (v := ?_) rfl (by rfl) (fun w' hU => ?_) ?_
     rotate_left
     obtain ⟨hU1, hU2, hD0, hD1, hD2, hD3, hD4, hD5⟩ := hS.out _ hU
     go_simp
     with_reducible rfl
     try simp only [Act.put, List.setIfInBounds_toArray, List.set_cons_zero, List.set_cons_succ])
  refine mix3_step (o := ⟨_, _, _, _, _, _⟩) rfl (fun K hK => ?_)
  go_simp
  have ha0 : Below w2.heap.size w2 (w2.alloc (.cells #[.int .u64 mi, .int .i64 ml, .int .i64 ms, .int .i64 mn, .int .i64 mp, .int .i64 mt] 85)).drew := ((Below.refl w2.heap.size w2).alloc (Nat.le_refl _) _).drew
  refine hK.out _ _ (Apt.of_below ha0) ?_
  clear hK K
  try simp only [Act.put, List.setIfInBounds_toArray, List.set_cons_zero, List.set_cons_succ]
  refine mix3_step (o := ⟨_, _, _, _, _, _⟩) rfl (fun K hK => ?_)
  refine step_append_K metaT rfl _ _ rfl rfl (HRW.out.below ha0) rfl (Lv.lit1 w2.drew [.int .u64 mi, .int .i64 ml, .int .i64 ms, .int .i64 mn, .int .i64 mp, .int .i64 mt] 85) (b := ⟨mi, ml, ms, mn, mp, mt⟩) (fun u _ => ⟨HOK.out, rfl⟩) (by simp [Value.oneCell']) (by omega) (by decide) (Nat.zero_le _) ?_
  intro v6 w6 ho6 hg6 hv6
  replace hg6 : (w2.alloc (.cells #[.int .u64 mi, .int .i64 ml, .int .i64 ms, .int .i64 mn, .int .i64 mp, .int .i64 mt] 85)).drew.grownBy w6 (Value.slice A3 l3 c3).ownBlock := hg6
  have hz1 : (w2.alloc (.cells #[.int .u64 mi, .int .i64 ml, .int .i64 ms, .int .i64 mn, .int .i64 mp, .int .i64 mt] 85)).drew.heap.size = w2.heap.size + 1 := by simp
  replace hv6 : v6.ownBlock = (Value.slice A3 l3 c3).ownBlock ∨ v6.ownBlock = some (w2.alloc (.cells #[.int .u64 mi, .int .i64 ml, .int .i64 ms, .int .i64 mn, .int .i64 mp, .int .i64 mt] 85)).drew.heap.size := hv6
  rw [hz1] at hv6
  have hap6 : Apt (fun z => (Value.slice A3 l3 c3).ownBlock = some z) w2 w6 := (Apt.of_below ha0).trans (Apt.of_grown hg6 fun z hz => hz)
  refine hK.out _ _ hap6 ?_
  clear hK K
  try simp only [Act.put, List.setIfInBounds_toArray, List.set_cons_zero, List.set_cons_succ]
  repeat
    (refine mix3_read (o := ⟨_, _, _, _, _, _⟩) (v := ?_) rfl (by rfl) (fun w' hU => ?_) ?_
     rotate_left
     obtain ⟨hU1, hU2, hD0, hD1, hD2, hD3, hD4, hD5⟩ := hS.out _ hU
     go_simp
     with_reducible rfl
     try simp only [Act.put, List.setIfInBounds_toArray, List.set_cons_zero, List.set_cons_succ])
  have hB6 : Blk w6 r 80 #[.slice (some ⟨q0, o0, none⟩) (lv.length + 1) c1, .slice A2 l2 c2, .slice A3 l3 c3, .slice A4 l4 c4] := (hap6.block _ HFR.out fun e => (HR2.out.n3 r e).2.2.2.2 rfl).trans HR2.out.blk
  have HO6 := Lib.hid ho6
  have HV6 := Lib.hid hv6
  have HGR : Hid (w2.grownBy w6 (Value.slice A3 l3 c3).ownBlock) := Lib.hid (grown_trans (grown_of_below ha0 _) hg6)
  obtain ⟨A6, c6, rfl, _, _⟩ := ho6.form
  generalize hl6 : (gl ++ [(⟨mi, ml, ms, mn, mp, mt⟩ : Me)]).length = l6 at *
  clear ho6 hg6 hv6 hap6 ha0 hz1 hl6
  have hB7 := Blk.set_ hB6 0 (.slice A5 lv.length c5)
  have hB8 := Blk.set_ hB7 2 (.slice A6 l6 c6)
  simp at hB7 hB8
  have k60 := hB6.cell 0
  have f60 := hB6.frozen 0
  have k72 := hB7.cell 2
  have f72 := hB7.frozen 2
  simp at k60 k72
  have HB8 := Lib.hid hB8
  have HG8 : Hid (w6.grownBy ((w6.setCell ⟨r, 0, none⟩ (.slice A5 lv.length c5)).setCell ⟨r, 2, none⟩ (.slice A6 l6 c6)) (some r)) := Lib.hid (grown_trans (grown_set _ _ _ _) (grown_set _ _ _ _))
  clear hB6 hB7 hB8
  refine mix3_store (o := ⟨_, _, _, _, _, _⟩) rfl (fun K hK => ?_)
  go_simp
  refine hK.out _ _ ?_
  clear hK K
  try simp only [Act.put, List.setIfInBounds_toArray, List.set_cons_zero, List.set_cons_succ]
  repeat
    (refine mix3_free (o := ⟨_, _, _, _, _, _⟩) (v := ?_) rfl (by rfl) (fun w' => ?_) ?_
     rotate_left
     go_simp
     with_reducible rfl
     try simp only [Act.put, List.setIfInBounds_toArray, List.set_cons_zero, List.set_cons_succ])
  refine mix3_store (o := ⟨_, _, _, _, _, _⟩) rfl (fun K hK => ?_)
  go_simp
  refine hK.out _ _ ?_
  clear hK K
  refine mix3_done ?_
  go_wp2_with fail
  go_ret
  have hv : (Value.slice A6 l6 c6).ownBlock = (Value.slice A3 l3 c3).ownBlock ∨ ∃ z, (Value.slice A6 l6 c6).ownBlock = some z ∧ w2.heap.size ≤ z := by
    rcases HV6.out with h | h
    · exact .inl h
    · exact .inr ⟨_, h, by omega⟩
  obtain ⟨h1, h2, h3⟩ := HR2.out.grewL HC2.out HGR.out HO6.out hv HVT.out HB8.out HG8.out
  exact ⟨rfl, _, _, h2, HG2.out.trans h3, _, _, h1⟩

set_option maxHeartbeats 12800000 in
theorem pnextK_any {w : World} {F Fs G : Nat → Prop} {g p r : Nat} {m : Sm} {a b rv v1 v2 v3 v4 : Value} {n N id : Nat} {rl gl : List Me} {rk gk : List Mk} {mr : List Nat} (hC : PlC w F Fs G g p m a b n rv rl rk) (hR : PlR w F Fs G p r v1 v2 v3 v4 [] (id :: mr) gl gk)
    (hm : m.fine N) (hN : N ≤ 100000) (hid : id < 18446744073709551616) (hgl : gk.length ≤ 10000) (hL : Ld w) :
    Calls Tryz.prog 45 #[.pointer (some ⟨r, 0, none⟩), .pointer (some ⟨g, 0, none⟩)] w fun e w' => e = .returned (errV (mrR m id).1) ∧ ∃ (F' Fs' : Nat → Prop), PlC w' F' Fs' G g p (callS m) a b n rv rl rk ∧ Goes w F w' F' ∧
      ((mrR m id).1 = 0 → ∃ (v2' v4' : Value), PlR w' F' Fs' G p r v1 v2' v3 v4' [] mr gl (gk ++ [(mrR m id).2])) := by
  have hcal := pgetK_any id hC.st hm hN hid hL
  have HOK := Lib.hid (mrR_ok m id)
  have HC := Lib.hid hC
  have HR := Lib.hid hR
  obtain ⟨A1, c1, hv1, _, _⟩ := hR.us.here.1.form
  obtain ⟨A2, c2, hv2, _, _⟩ := hR.us.here.2.form
  obtain ⟨A3, c3, hv3, _, _⟩ := hR.gl.form
  obtain ⟨A4, c4, hv4, _, _⟩ := hR.gk.form
  rw [List.length_nil] at hv1
  rw [List.length_cons] at hv2
  subst hv1 hv2
  obtain ⟨_, ⟨q0, o0, rfl, hq0, x0⟩, A5, c5, hsl, hVt⟩ := us_first hR.us.here.2
  generalize hl3 : gl.length = l3 at hv3
  generalize hl4 : gk.length = l4 at hv4
  subst hv3 hv4
  have HL4 := Lib.hid hl4
  clear hl3 hl4
  have HSL := Lib.hid hsl
  have HVT := Lib.hid hVt
  have r0 := hR.blk.cell 0
  have r1 := hR.blk.cell 1
  simp at r0 r1
  generalize mrR m id = mr0 at hcal HOK
  obtain ⟨mc, mi, ma, mb⟩ := mr0
  simp only [mkV] at hcal HOK
  simp only
  clear hC hR hm hL hsl hVt
  go_enter Tryz.func45, Tryz.ntmps45
  go_wp2_with fail
  refine hcal.mono ?_
  rintro e w1 ⟨rfl, Fs1, hP1, hG1⟩
  have hC1 := HC.out.stored hP1 hG1
  have hR1 := HR.out.stored HC.out hG1
  have hb2 : Below w1.heap.size w1 (w1.alloc (.cells #[.int .u64 mi, .int .i64 ma, .int .u64 mb] 89)) := (Below.refl _ _).alloc (Nat.le_refl _) _
  have HC2 := Lib.hid (hC1.keep (Apt.of_below hb2))
  have HR2 := Lib.hid (hR1.keep hC1.fg (Apt.of_below hb2))
  have HG2 := Lib.hid ((hG1.wide18 HC.out.fs).later hb2)
  have HT2 : Hid (Blk (w1.alloc (.cells #[.int .u64 mi, .int .i64 ma, .int .u64 mb] 89)) w1.heap.size 89 #[.int .u64 mi, .int .i64 ma, .int .u64 mb]) := Lib.hid (Blk.new _ _ _)
  have HTN : Hid (∀ z, (F z ∨ Fs1 z) → z ≠ w1.heap.size) := Lib.hid fun z hz e => by have := hC1.lt z hz; omega
  clear hcal hP1 hG1 hC1 hR1 hb2 HC HR r0 r1 x0 hq0
  by_cases hmc : mc = 0
  rotate_left
  · rw [errV_code hmc]
    go_wp2_with fail
    go_ret
    exact ⟨by rw [errV_code hmc]; rfl, _, _, HC2.out, HG2.out, fun h => absurd h hmc⟩
  subst hmc
  simp only [errV_zero]
  go_wp2_with fail
  revert HC2 HR2 HG2 HT2
  generalize hw2 : (w1.alloc (.cells #[.int .u64 mi, .int .i64 ma, .int .u64 mb] 89)) = w2
  generalize w1.heap.size = g1 at *
  clear hw2
  intro HC2 HR2 HG2 HT2
  have hS : Hid (∀ u, Apt (fun z => (Value.slice A4 l4 c4).ownBlock = some z) w2 u → u.cell? ⟨r, 1, none⟩ = some (.slice (some ⟨q0, o0, none⟩) (mr.length + 1) c2) ∧ u.cell? ⟨r, 3, none⟩ = some (Value.slice A4 l4 c4) ∧ u.cell? ⟨g1, 0, none⟩ = some (.int .u64 mi) ∧ u.cell? ⟨g1, 1, none⟩ = some (.int .i64 ma) ∧ u.cell? ⟨g1, 2, none⟩ = some (.int .u64 mb)) := Lib.hid fun u hu => by
    have hbr : Blk u r 80 #[.slice A1 0 c1, .slice (some ⟨q0, o0, none⟩) (mr.length + 1) c2, .slice A3 l3 c3, .slice A4 l4 c4] := (hu.block _ HR2.out.blk.lt fun e => (HR2.out.n4 r e).2.2.2.2.1 rfl).trans HR2.out.blk
    have hbt : Blk u g1 89 #[.int .u64 mi, .int .i64 ma, .int .u64 mb] := (hu.block _ HT2.out.lt fun e => HTN.out g1 (HR2.out.n4 g1 e).1 rfl).trans HT2.out
    have c0 := hbr.cell 1
    have c2 := hbr.cell 3
    have d0 := hbt.cell 0
    have d1 := hbt.cell 1
    have d2 := hbt.cell 2
    simp at c0 c2 d0 d1 d2
    exact ⟨c0, c2, d0, d1, d2⟩
  have hsl := HSL.out
  have HRW := Lib.hid HR2.out.gk
  have HFR := Lib.hid HR2.out.blk.lt
  have hr1 : ∀ u i, Blk u r 80 #[.slice A1 0 c1, .slice (some ⟨q0, o0, none⟩) (mr.length + 1) c2, .slice A3 l3 c3, .slice A4 l4 c4] → u.frozen? ⟨r, i, none⟩ = false := fun u i hb => hb.frozen i
  refine wp_region_mix3 17 [(0, 0), (1, 3), (2, 0), (3, 0), (4, 0), (5, 0), (6, 0), (7, 0), (8, 0), (9, 0), (10, 0), (11, 0), (12, 0), (13, 1), (14, 1), (15, 0), (16, 0), (17, 2), (18, 3), (19, 3), (20, 3), (21, 2)] (fun u => Apt (fun z => (Value.slice A4 l4 c4).ownBlock = some z) w2 u) (by kernel_rfl) (by kernel_rfl) (by decide +kernel) rfl (Apt.of_below (Below.refl _ _).drew) ?_
  (refine mix3_read (o := ⟨_, _, _, _, _, _⟩) (v := ?_) rfl (by rfl) (fun w' hU => ?_) ?_
   rotate_left
   obtain ⟨hU1, hU2, hD0, hD1, hD2⟩ := hS.out _ hU
   go_simp
   with_reducible rfl
   try simp only [Act.put, List.setIfInBounds_toArray, List.set_cons_zero, List.set_cons_succ])
  (refine mix3_free (o := ⟨_, _, _, _, _, _⟩) (v := ?_) rfl (by rfl) (fun w' => ?_) ?_
   rotate_left
   go_simp
   with_reducible rfl
   try simp only [Act.put, List.setIfInBounds_toArray, List.set_cons_zero, List.set_cons_succ])
  repeat
    (refine mix3_read (o := ⟨_, _, _, _, _, _⟩) (v := ?_) rfl (by rfl) (fun w' hU => ?_) ?_
     rotate_left
     obtain ⟨hU1, hU2, hD0, hD1, hD2⟩ := hS.out _ hU
     go_simp
     with_reducible rfl
     try simp only [Act.put, List.setIfInBounds_toArray, List.set_cons_zero, List.set_cons_succ])
  refine mix3_step (o := ⟨_, _, _, _, _, _⟩) rfl (fun K hK => ?_)
  go_simp
  have ha0 : Below w2.heap.size w2 (w2.alloc (.cells #[.int .u64 mi, .int .i64 ma, .int .u64 mb] 89)).drew := ((Below.refl w2.heap.size w2).alloc (Nat.le_refl _) _).drew
  refine hK.out _ _ (Apt.of_below ha0) ?_
  clear hK K
  try simp only [Act.put, List.setIfInBounds_toArray, List.set_cons_zero, List.set_cons_succ]
  refine mix3_step (o := ⟨_, _, _, _, _, _⟩) rfl (fun K hK => ?_)
  refine step_append_K markT rfl _ _ rfl rfl (HRW.out.below ha0) rfl (Lv.lit1 w2.drew [.int .u64 mi, .int .i64 ma, .int .u64 mb] 89) (b := ⟨mi, ma, mb⟩) (fun u _ => ⟨HOK.out, rfl⟩) (by simp [Value.oneCell']) (by omega) (by decide) (Nat.zero_le _) ?_
  intro v6 w6 ho6 hg6 hv6
  replace hg6 : (w2.alloc (.cells #[.int .u64 mi, .int .i64 ma, .int .u64 mb] 89)).drew.grownBy w6 (Value.slice A4 l4 c4).ownBlock := hg6
  have hz1 : (w2.alloc (.cells #[.int .u64 mi, .int .i64 ma, .int .u64 mb] 89)).drew.heap.size = w2.heap.size + 1 := by simp
  replace hv6 : v6.ownBlock = (Value.slice A4 l4 c4).ownBlock ∨ v6.ownBlock = some (w2.alloc (.cells #[.int .u64 mi, .int .i64 ma, .int .u64 mb] 89)).drew.heap.size := hv6
  rw [hz1] at hv6
  have hap6 : Apt (fun z => (Value.slice A4 l4 c4).ownBlock = some z) w2 w6 := (Apt.of_below ha0).trans (Apt.of_grown hg6 fun z hz => hz)
  refine hK.out _ _ hap6 ?_
  clear hK K
  try simp only [Act.put, List.setIfInBounds_toArray, List.set_cons_zero, List.set_cons_succ]
  repeat
    (refine mix3_read (o := ⟨_, _, _, _, _, _⟩) (v := ?_) rfl (by rfl) (fun w' hU => ?_) ?_
     rotate_left
     obtain ⟨hU1, hU2, hD0, hD1, hD2⟩ := hS.out _ hU
     go_simp
     with_reducible rfl
     try simp only [Act.put, List.setIfInBounds_toArray, List.set_cons_zero, List.set_cons_succ])
  have hB6 : Blk w6 r 80 #[.slice A1 0 c1, .slice (some ⟨q0, o0, none⟩) (mr.length + 1) c2, .slice A3 l3 c3, .slice A4 l4 c4] := (hap6.block _ HFR.out fun e => (HR2.out.n4 r e).2.2.2.2.1 rfl).trans HR2.out.blk
  have HO6 := Lib.hid ho6
  have HV6 := Lib.hid hv6
  have HGR : Hid (w2.grownBy w6 (Value.slice A4 l4 c4).ownBlock) := Lib.hid (grown_trans (grown_of_below ha0 _) hg6)
  obtain ⟨A6, c6, rfl, _, _⟩ := ho6.form
  generalize hl6 : (gk ++ [(⟨mi, ma, mb⟩ : Mk)]).length = l6 at *
  clear ho6 hg6 hv6 hap6 ha0 hz1 hl6
  have hB7 := Blk.set_ hB6 1 (.slice A5 mr.length c5)
  have hB8 := Blk.set_ hB7 3 (.slice A6 l6 c6)
  simp at hB7 hB8
  have k60 := hB6.cell 1
  have f60 := hB6.frozen 1
  have k72 := hB7.cell 3
  have f72 := hB7.frozen 3
  simp at k60 k72
  have HB8 := Lib.hid hB8
  have HG8 : Hid (w6.grownBy ((w6.setCell ⟨r, 1, none⟩ (.slice A5 mr.length c5)).setCell ⟨r, 3, none⟩ (.slice A6 l6 c6)) (some r)) := Lib.hid (grown_trans (grown_set _ _ _ _) (grown_set _ _ _ _))
  clear hB6 hB7 hB8
  refine mix3_store (o := ⟨_, _, _, _, _, _⟩) rfl (fun K hK => ?_)
  go_simp
  refine hK.out _ _ ?_
  clear hK K
  try simp only [Act.put, List.setIfInBounds_toArray, List.set_cons_zero, List.set_cons_succ]
  repeat
    (refine mix3_free (o := ⟨_, _, _, _, _, _⟩) (v := ?_) rfl (by rfl) (fun w' => ?_) ?_
     rotate_left
     go_simp
     with_reducible rfl
     try simp only [Act.put, List.setIfInBounds_toArray, List.set_cons_zero, List.set_cons_succ])
  refine mix3_store (o := ⟨_, _, _, _, _, _⟩) rfl (fun K hK => ?_)
  go_simp
  refine hK.out _ _ ?_
  clear hK K
  refine mix3_done ?_
  go_wp2_with fail
  go_ret
  have hv : (Value.slice A6 l6 c6).ownBlock = (Value.slice A4 l4 c4).ownBlock ∨ ∃ z, (Value.slice A6 l6 c6).ownBlock = some z ∧ w2.heap.size ≤ z := by
    rcases HV6.out with h | h
    · exact .inl h
    · exact .inr ⟨_, h, by omega⟩
  obtain ⟨h1, h2, h3⟩ := HR2.out.grewK HC2.out HGR.out HO6.out hv HVT.out HB8.out HG8.out
  exact ⟨rfl, _, _, h2, HG2.out.trans h3, _, _, h1⟩

set_option maxHeartbeats 1600000 in
theorem pcall_off {w : World} {F Fs G : Nat → Prop} {g p : Nat} {m : Sm} {a b : Value} {n N : Nat} {rl : List Me} {rk : List Mk} (hC : PlC w F Fs G g p m a b n (.pointer none) rl rk) (hm : m.fine N) (hns : Nms m) (hN : N ≤ 3000) (hL : Keep F LdP w) :
    Calls Tryz.prog 26 #[.pointer (some ⟨p, 0, none⟩)] w fun e w' => ∃ (ro : Option Addr), e = .returned (.tuple #[.pointer ro, errV (nsR m).1]) ∧ ∃ (F' Fs' G' : Nat → Prop), PlC w' F' Fs' G' g p (callS m) a b n (.pointer none) rl rk ∧ Goes w F w' F' ∧
      ((nsR m).1 = 0 → ∃ (r : Nat) (v1 v2 v3 v4 : Value), ro = some ⟨r, 0, none⟩ ∧ PlR w' F' Fs' G' p r v1 v2 v3 v4 (nsR m).2.1 (nsR m).2.2 [] []) := by
  have hcal := pbegin_any hC hm hns hN hL
  generalize nsR m = nm at hcal ⊢
  have p0 := hC.blk.cell 0
  have p4 := hC.blk.cell 4
  simp at p0 p4
  clear hC hm hns hL
  go_enter Tryz.func26, Tryz.ntmps26
  go_wp2_with fail
  refine hcal.mono ?_
  rintro e w1 ⟨ro, rfl, F1, Fs1, G1, h1, h2, h3⟩
  clear hcal p0 p4
  generalize hev : errV nm.1 = ev
  go_wp2_with fail
  go_ret2
  exact ⟨ro, by rw [hev]; rfl, F1, Fs1, G1, h1, h2, h3⟩

set_option maxHeartbeats 1600000 in
theorem pcall_on {w : World} {p g r n : Nat} {a b : Value} (hb : Blk w p 76 #[.pointer (some ⟨g, 0, none⟩), a, b, .int .i64 (n : Int), .pointer (some ⟨r, 0, none⟩)]) {Post : Ending → World → Prop}
    (hcal : Calls Tryz.prog 45 #[.pointer (some ⟨r, 0, none⟩), .pointer (some ⟨g, 0, none⟩)] w.drew Post)
    (hpost : ∀ e w', Post e w' → (∃ ev, e = .returned ev) ∧ Blk w' p 76 #[.pointer (some ⟨g, 0, none⟩), a, b, .int .i64 (n : Int), .pointer (some ⟨r, 0, none⟩)]) :
    Calls Tryz.prog 26 #[.pointer (some ⟨p, 0, none⟩)] w fun e w' => ∃ ev, e = .returned (.tuple #[.pointer (some ⟨r, 0, none⟩), ev]) ∧ Post (.returned ev) w' := by
  have p4 := hb.cell 4
  simp at p4
  have HB := Lib.hid hb
  have HCAL := Lib.hid hcal
  have HPO := Lib.hid hpost
  have hS : Hid (∀ u, Blk u p 76 #[.pointer (some ⟨g, 0, none⟩), a, b, .int .i64 (n : Int), .pointer (some ⟨r, 0, none⟩)] → u.cell? ⟨p, 0, none⟩ = some (.pointer (some ⟨g, 0, none⟩)) ∧ u.cell? ⟨p, 4, none⟩ = some (.pointer (some ⟨r, 0, none⟩))) := Lib.hid fun u hu => by
    have c0 := hu.cell 0
    have c4 := hu.cell 4
    simp at c0 c4
    exact ⟨c0, c4⟩
  clear hcal hpost hb
  go_enter Tryz.func26, Tryz.ntmps26
  go_wp2_with fail
  refine wp_region_mix [(0, false), (1, false), (2, false), (3, false), (4, false), (5, false), (6, false), (7, false), (8, false), (9, false), (10, false), (11, false), (12, true), (13, false), (14, false)] (fun u => Blk u p 76 #[.pointer (some ⟨g, 0, none⟩), a, b, .int .i64 (n : Int), .pointer (some ⟨r, 0, none⟩)]) (by kernel_rfl) (by kernel_rfl) (by decide +kernel) rfl (HB.out.drewN 1) ?_
  repeat
    (refine mix_read (o := ⟨_, _, _, _, _, _⟩) (v := ?_) rfl (by rfl) (fun w' hU => ?_) ?_
     rotate_left
     obtain ⟨hU1, hU2⟩ := hS.out _ hU
     go_simp
     with_reducible rfl
     try simp only [Act.put, List.setIfInBounds_toArray, List.set_cons_zero, List.set_cons_succ])
  refine mix_step (o := ⟨_, _, _, _, _, _⟩) rfl (fun K hK => ?_)
  go_simp
  refine HCAL.out.mono ?_
  intro e w1 hPo
  obtain ⟨⟨ev, rfl⟩, hB1⟩ := HPO.out _ _ hPo
  have HPO1 := Lib.hid hPo
  have HB1 := Lib.hid hB1
  clear hPo hB1
  go_simp
  refine hK.out _ _ HB1.out ?_
  clear hK K
  try simp only [Act.put, List.setIfInBounds_toArray, List.set_cons_zero, List.set_cons_succ]
  repeat
    (refine mix_read (o := ⟨_, _, _, _, _, _⟩) (v := ?_) rfl (by rfl) (fun w' hU => ?_) ?_
     rotate_left
     obtain ⟨hU1, hU2⟩ := hS.out _ hU
     go_simp
     with_reducible rfl
     try simp only [Act.put, List.setIfInBounds_toArray, List.set_cons_zero, List.set_cons_succ])
  refine mix_done ?_
  go_wp2_with fail
  go_ret2
  exact ⟨ev, rfl, HPO1.out⟩

theorem pcall_any {w : World} {F : Nat → Prop} {p g : Nat} {m : Sm} {q : Pl} {N : Nat} (h : PPx w F p g m q) (hm : m.fine N) (hns : Nms m) (hN : N ≤ 2000) (hq : q.fine 2000) (hL : Keep F LdP w) :
    ∃ (a b rv : Value), Calls Tryz.prog 26 #[.pointer (some ⟨p, 0, none⟩)] w fun e w' => ∃ (ro : Option Addr), e = .returned (.tuple #[.pointer ro, errV (plGo m q).1]) ∧ ∃ (F' Fs' G' : Nat → Prop), PlC w' F' Fs' G' g p (callS m) a b q.runs rv q.rl q.rk ∧ Goes w F w' F' ∧
      ((plGo m q).1 = 0 → ∃ (r : Nat) (v1 v2 v3 v4 : Value), ro = some ⟨r, 0, none⟩ ∧ PlR w' F' Fs' G' p r v1 v2 v3 v4 (plGo m q).2.lv (plGo m q).2.mr (plGo m q).2.gl (plGo m q).2.gk) := by
  obtain ⟨on, lv, mr, gl, gk, rl, rk, runs⟩ := q
  obtain ⟨Fs, G, a, b, rv, h1, h2⟩ := h
  have hfew := hq.few
  have hsome := hq.some_
  have hlv := hq.lv
  have hmr := hq.mr
  simp only at h1 h2 hfew hsome hlv hmr
  have hd : Below w.heap.size w w.drew := (Below.refl _ _).drew
  have h1d := h1.keep (Apt.of_below hd)
  rcases h2 with ⟨rfl, rfl⟩ | ⟨rfl, r, v1, v2, v3, v4, rfl, h3⟩
  · rw [plGo_off rfl]
    exact ⟨a, b, _, pcall_off h1 hm hns (by omega) hL⟩
  · have h3d := h3.keep h1.fg (Apt.of_below hd)
    cases lv with
    | cons id lv =>
      rw [plGo_lv]
      have hcal := pcall_on h1.blk (pnextL_any h1d h3d hm (by omega) (hlv id (List.mem_cons_self ..)) (by simp at hfew; omega) (hL.here.ld.below hd)) (fun e w' ⟨he, F', Fs', h4, _⟩ => ⟨⟨_, he⟩, h4.blk⟩)
      refine ⟨a, b, .pointer (some ⟨r, 0, none⟩), hcal.mono ?_⟩
      · rintro e w' ⟨ev, rfl, h4, F', Fs', h5, h6, h7⟩
        injection h4 with h4
        subst h4
        refine ⟨_, rfl, F', Fs', G, h5, (Goes.of_below hd).trans h6, fun hc => ?_⟩
        obtain ⟨v1', v3', h8⟩ := h7 hc
        exact ⟨r, v1', v2, v3', v4, rfl, h8⟩
    | nil =>
      cases mr with
      | nil => exact absurd (hsome rfl) (by simp)
      | cons id mr =>
        rw [plGo_mk]
        have hcal := pcall_on h1.blk (pnextK_any h1d h3d hm (by omega) (hmr id (List.mem_cons_self ..)) (by simp at hfew; omega) (hL.here.ld.below hd)) (fun e w' ⟨he, F', Fs', h4, _⟩ => ⟨⟨_, he⟩, h4.blk⟩)
        refine ⟨a, b, .pointer (some ⟨r, 0, none⟩), hcal.mono ?_⟩
        · rintro e w' ⟨ev, rfl, h4, F', Fs', h5, h6, h7⟩
          injection h4 with h4
          subst h4
          refine ⟨_, rfl, F', Fs', G, h5, (Goes.of_below hd).trans h6, fun hc => ?_⟩
          obtain ⟨v2', v4', h8⟩ := h7 hc
          exact ⟨r, v1, v2', v3, v4', rfl, h8⟩

set_option maxHeartbeats 6400000 in
theorem pstep_any {w : World} {F : Nat → Prop} {p g : Nat} {m : Sm} {q : Pl} {N : Nat} (h : PPx w F p g m q) (hm : m.fine N) (hns : Nms m) (hN : N ≤ 2000) (hq : q.fine 2000) (hr : q.runs ≤ 1000000) (hL : Keep F LdP w) :
    Calls Tryz.prog 9 #[.pointer (some ⟨p, 0, none⟩)] w fun e w' => e = .returned (.tuple #[.bool (plStep m q).1, errV (plStep m q).2.1]) ∧ ∃ F' : Nat → Prop, PPx w' F' p g (callS m) (plStep m q).2.2 ∧ Goes w F w' F' := by
  obtain ⟨a, b, rv, hcal⟩ := pcall_any h hm hns hN hq hL
  have HFEW := Lib.hid (plGo_few (m := m) hq (by have := hm.len; omega))
  have HROS := Lib.hid (plGo_ros m q)
  have HRUNS := Lib.hid (plGo_runs m q)
  have HON := Lib.hid (plGo_isOn m q)
  have HST : Hid (plStep m q = plEnd (plGo m q).1 (plGo m q).2) := Lib.hid rfl
  have HR := Lib.hid hr
  generalize plGo m q = x at hcal HFEW HROS HRUNS HON HST
  obtain ⟨c, on, lv, mr, gl, gk, rl, rk, runs⟩ := x
  obtain ⟨qon, qlv, qmr, qgl, qgk, qrl, qrk, qruns⟩ := q
  simp only at hcal HFEW HROS HRUNS HON HST HR
  have h1 := HROS.out.1
  have h2 := HROS.out.2
  have h3 := HRUNS.out
  have h4 := HON.out
  subst h1 h2 h3 h4
  clear h hm hns hN hq hr hL HROS HRUNS HON
  go_enter Tryz.func9, Tryz.ntmps9
  go_wp2_with fail
  refine hcal.mono ?_
  rintro e w1 ⟨ro, rfl, F1, Fs1, G1, hC1, hG1, hrun⟩
  have p4 := hC1.blk.cell 4
  have f4 := hC1.blk.frozen 4
  simp at p4
  have hB2 := Blk.set_ hC1.blk 4 (.pointer none)
  simp at hB2
  have hg2 := grown_set w1 p 4 (.pointer none)
  have HC2 := Lib.hid (hC1.own hB2 hg2 hC1.ros)
  have HG2 := Lib.hid (hG1.own hg2 hC1.fp)
  clear hcal hB2 hG1
  by_cases hc : c = 0
  rotate_left
  · rw [errV_code hc]
    have HX : Hid (plStep m ⟨qon, qlv, qmr, qgl, qgk, rl, rk, runs⟩ = (false, c, ⟨false, lv, mr, gl, gk, rl, rk, runs⟩)) := Lib.hid (by rw [HST.out, plEnd_bad hc])
    clear hrun hg2 hC1
    go_wp2_with fail
    go_ret2
    rw [HX.out]
    exact ⟨by rw [show errV (c, (⟨false, lv, mr, gl, gk, rl, rk, runs⟩ : Pl)).1 = code c from errV_code hc]; rfl, F1, ⟨Fs1, G1, a, b, _, HC2.out, .inl ⟨rfl, rfl⟩⟩, HG2.out⟩
  subst hc
  obtain ⟨r, v1, v2, v3, v4, rfl, hR1⟩ := hrun rfl
  have hR2 := hR1.far hC1 hg2
  obtain ⟨A1, c1, rfl, _, _⟩ := hR2.us.here.1.form
  obtain ⟨A2, c2, rfl, _, _⟩ := hR2.us.here.2.form
  obtain ⟨A3, c3, rfl, _, _⟩ := hR2.gl.form
  obtain ⟨A4, c4, rfl, _, _⟩ := hR2.gk.form
  have HR2 := Lib.hid hR2
  have r0 := hR2.blk.cell 0
  have r1 := hR2.blk.cell 1
  have r2 := hR2.blk.cell 2
  have r3 := hR2.blk.cell 3
  have p42 := HC2.out.blk.cell 4
  have p1 := HC2.out.blk.cell 1
  have p2 := HC2.out.blk.cell 2
  have p3 := HC2.out.blk.cell 3
  have hfz := fun i => HC2.out.blk.frozen i
  simp at r0 r1 r2 r3 p42 p1 p2 p3
  simp only [errV_zero]
  obtain ⟨hf1, hf2, hf3, hf4⟩ := HFEW.out
  clear hrun hg2 hC1 hR1 hR2 hf3 hf4
  go_wp2_with fail
  generalize w1.setCell ⟨p, 4, none⟩ (.pointer none) = w2 at *
  clear p4 f4
  by_cases hl : 0 < lv.length + mr.length
  · have HX : Hid (plStep m ⟨qon, qlv, qmr, qgl, qgk, rl, rk, runs⟩ = (false, 0, ⟨true, lv, mr, gl, gk, rl, rk, runs⟩)) := Lib.hid (by rw [HST.out, plEnd_on hl])
    have hgt : decide ((0 : Int) < (lv.length : Int) + (mr.length : Int)) = true := decide_eq_true (by omega)
    clear hl
    go_quiet (fail)
    go_wp2_with fail
    generalize nq = n at *
    go_ret2
    rw [HX.out]
    have hB3 := Blk.set_ (HC2.out.blk.drewN n) 4 (.pointer (some ⟨r, 0, none⟩))
    simp at hB3
    have hg3 : w2.grownBy ((w2.drewN n).setCell ⟨p, 4, none⟩ (.pointer (some ⟨r, 0, none⟩))) (some p) := grown_trans (grown_of_below (below_drewN (Below.refl _ _) n) _) (grown_set _ _ _ _)
    exact ⟨rfl, F1, ⟨Fs1, G1, a, b, _, HC2.out.own hB3 hg3 HC2.out.ros, .inr ⟨rfl, r, _, _, _, _, rfl, HR2.out.far HC2.out hg3⟩⟩, HG2.out.own hg3 HC2.out.fp⟩
  · have hl1 : lv = [] := List.eq_nil_of_length_eq_zero (by omega)
    have hl2 : mr = [] := List.eq_nil_of_length_eq_zero (by omega)
    subst hl1 hl2
    by_cases hb : 1000 < gl.length + gk.length
    · have HX : Hid (plStep m ⟨qon, qlv, qmr, qgl, qgk, rl, rk, runs⟩ = (false, 3, ⟨false, [], [], gl, gk, rl, rk, runs⟩)) := Lib.hid (by rw [HST.out, plEnd_large rfl rfl hb])
      have hgt : decide ((1000 : Int) < (gl.length : Int) + (gk.length : Int)) = true := decide_eq_true (by omega)
      clear hl
      go_quiet (fail)
      go_wp2_with fail
      generalize nq = n1 at *
      go_quiet (fail)
      go_wp2_with fail
      generalize nq = n2 at *
      go_ret2
      rw [HX.out]
      have hb3 : Below w2.heap.size w2 (w2.drewN (n1 + n2)) := below_drewN (Below.refl _ _) _
      exact ⟨rfl, F1, ⟨Fs1, G1, a, b, _, HC2.out.keep (Apt.of_below hb3), .inl ⟨rfl, rfl⟩⟩, HG2.out.later hb3⟩
    · have HX : Hid (plStep m ⟨qon, qlv, qmr, qgl, qgk, rl, rk, runs⟩ = (true, 0, ⟨false, [], [], gl, gk, gl, gk, runs + 1⟩)) := Lib.hid (by rw [HST.out, plEnd_whole rfl rfl hb])
      have hgt : decide ((1000 : Int) < (gl.length : Int) + (gk.length : Int)) = false := decide_eq_false (by omega)
      have hru := HR.out
      clear hl hb
      go_quiet (fail)
      go_wp2_with fail
      generalize nq = n1 at *
      go_quiet (fail)
      go_wp2_with fail
      generalize nq = n2 at *
      go_ret2
      rw [HX.out]
      have hB3 := ((Blk.set_ (HC2.out.blk.drewN (n1 + n2)) 1 (.slice A3 gl.length c3)).set_ 2 (.slice A4 gk.length c4)).set_ 3 (.int .i64 ((runs + 1 : Nat) : Int))
      simp only [List.setIfInBounds_toArray, List.set_cons_zero, List.set_cons_succ, Int.natCast_add, Int.natCast_one] at hB3
      have hg3 : w2.grownBy ((((w2.drewN (n1 + n2)).setCell ⟨p, 1, none⟩ (.slice A3 gl.length c3)).setCell ⟨p, 2, none⟩ (.slice A4 gk.length c4)).setCell ⟨p, 3, none⟩ (.int .i64 ((runs : Int) + 1))) (some p) :=
        grown_trans (grown_of_below (below_drewN (Below.refl _ _) (n1 + n2)) _) (grown_trans (grown_trans (grown_set _ _ _ _) (grown_set _ _ _ _)) (grown_set _ _ _ _))
      exact ⟨rfl, F1, ⟨Fs1, _, _, _, _, HC2.out.whole HR2.out (n' := runs + 1) hB3 hg3, .inl ⟨rfl, rfl⟩⟩, HG2.out.own hg3 HC2.out.fp⟩

theorem pnew_nil (w : World) : Calls Tryz.prog 7 #[.pointer none] w fun e w' => e = .returned (.tuple #[.pointer none, code 1]) ∧ Below w.heap.size w w' := by
  go_enter Tryz.func7, Tryz.ntmps7
  go_wp2_with fail
  go_ret2
  exact ⟨rfl, Below.refl _ _⟩

theorem pnew_any {w : World} {F : Nat → Prop} {g : Nat} {m : Sm} (h : PSt w F g m) :
    Calls Tryz.prog 7 #[.pointer (some ⟨g, 0, none⟩)] w fun e w' => ∃ (p : Nat) (F' : Nat → Prop), e = .returned (.tuple #[.pointer (some ⟨p, 0, none⟩), .nilIface]) ∧ PPx w' F' p g m Pl.new ∧ Goes w F w' F' := by
  have H := Lib.hid h
  clear h
  go_enter Tryz.func7, Tryz.ntmps7
  go_wp2_with fail
  go_ret2
  have hb : Below w.heap.size w (w.alloc (.cells #[.pointer (some ⟨g, 0, none⟩), .slice none 0 0, .slice none 0 0, .int .i64 0, .pointer none] 76)) := (Below.refl _ _).alloc (Nat.le_refl _) _
  have hsz : (w.alloc (.cells #[.pointer (some ⟨g, 0, none⟩), .slice none 0 0, .slice none 0 0, .int .i64 0, .pointer none] 76)).heap.size = w.heap.size + 1 := by simp
  have hP := H.out.below hb
  have hlt := H.out.lt
  refine ⟨w.heap.size, fun z => F z ∨ z = w.heap.size, rfl, ⟨F, fun _ => False, _, _, _, ⟨hP, Blk.new _ _ _, fun u _ => ⟨Mes.nil u, Mks.nil u⟩, fun z => .inl, fun z hz => hz.elim, .inr rfl, fun hp => by have := hlt _ hp; omega, id, fun z hz => hz.elim, fun z hz => ?_⟩, .inl ⟨rfl, rfl⟩⟩, ⟨Apt.of_below hb, fun z hz => ?_⟩⟩
  · rcases hz with hz | hz
    · have := hlt z hz
      omega
    · omega
  · rcases hz with hz | hz
    · exact .inl hz
    · exact .inr (by omega)

theorem pruns_any {w : World} {F : Nat → Prop} {p g : Nat} {m : Sm} {q : Pl} (h : PPx w F p g m q) :
    Calls Tryz.prog 21 #[.pointer (some ⟨p, 0, none⟩)] w fun e w' => ∃ F' : Nat → Prop, e = .returned (.int .i64 (q.runs : Int)) ∧ PPx w' F' p g m q ∧ Goes w F w' F' := by
  have H := Lib.hid h
  obtain ⟨Fs, G, a, b, rv, h1, _⟩ := h
  have p3 := h1.blk.cell 3
  simp at p3
  clear h1
  go_enter Tryz.func21, Tryz.ntmps21
  go_wp2_with fail
  go_ret
  exact ⟨F, rfl, H.out, Goes.refl _ _⟩

set_option maxHeartbeats 800000 in
theorem mclone_any (v : Value) (l : List Me) (w : World) (hl : l.length ≤ 1000000) (hv : Mes w v l) :
    Calls Tryz.prog 39 #[v] w fun e w' => ∃ v', e = .returned v' ∧ OwnK 6 w' w.heap.size 85 (fun _ => True) MeC v' l ∧ Below w.heap.size w w' := by
  obtain ⟨A, c, rfl, hc1, hc2⟩ := hv.form
  have hnil := fun u : World => Lib.run_eql_slice_nil (P := Tryz.prog) u 35 85 A l.length c 0 0 metaT.under
  cases A with
  | none =>
    have h0 : l = [] := by
      obtain ⟨xs, h1, h2⟩ := hv
      obtain ⟨A', c', hA, _, _, hk, hr⟩ := h1
      injection hA with hA _ _
      subst hA
      have := hr.noneEq
      have hf := flat_length hk
      rw [this] at hf
      have := h2.len
      simp only [List.length_nil] at hf
      exact List.eq_nil_of_length_eq_zero (by omega)
    subst h0
    simp only [Option.isNone_none, List.length_nil] at hnil
    clear hv
    go_enter Tryz.func39, Tryz.ntmps39
    go_wp2_with fail
    go_ret
    exact ⟨_, rfl, OwnK.nil _ _ _ _ _ _, Below.refl _ _⟩
  | some ad =>
    simp only [Option.isNone_some] at hnil
    have hb : Below w.heap.size w (w.alloc (.cells #[] 85)) := (Below.refl _ w).alloc (Nat.le_refl _) _
    obtain ⟨xs, hx, htw⟩ := hv
    have HX := Lib.hid (hx.below hb)
    have HTW := Lib.hid htw
    have hxl := htw.len
    have hone : ∀ y ∈ xs, ∀ u ∈ y, u.oneCell' = true := fun y hy u hu => by
      obtain ⟨i, hi⟩ := List.mem_iff_getElem?.1 hy
      have hil : i < l.length := by have := (List.getElem?_eq_some_iff.1 hi).1; omega
      obtain ⟨_, hyy⟩ := htw.at_ i l[i] y (List.getElem?_eq_getElem hil) hi
      subst hyy
      simp at hu
      rcases hu with rfl | rfl | rfl | rfl | rfl | rfl <;> rfl
    have hmade : OwnL 6 (w.alloc (.cells #[] 85)) w.heap.size 85 (.slice (some ⟨w.heap.size, 0, none⟩) 0 0) [] := ⟨World.ownsRow_made w #[] 0 (Nat.le_refl _) (by simp [maxLen]) (by simp), fun x hx => by cases hx⟩
    have HONE := Lib.hid hone
    have HMADE := Lib.hid hmade
    have hs1 : ([] : List (List Value)).length + xs.length ≤ maxLen := by simp only [maxLen, List.length_nil]; omega
    have hs2 : ([] : List (List Value)).length + xs.length ≤ 1000000 := by simp only [List.length_nil]; omega
    have HS1 := Lib.hid hs1
    have HS2 := Lib.hid hs2
    clear hx htw hone hmade hxl hs1 hs2 hl
    go_enter Tryz.func39, Tryz.ntmps39
    go_wp2_with (at_builtin; refine wpList_append_elems _ metaT rfl _ _ rfl w.heap.size (.slice (some ⟨w.heap.size, 0, none⟩) 0 0) [] rfl HMADE.out _ xs rfl HX.out HONE.out HS1.out (by have := HS2.out; omega) (by simp) ?_)
    intro v2 w2 hown2 hg2 _
    have hb2 : Below w.heap.size w w2 := hb.grown hg2 (by simp) (by intro k hk; simp [Value.ownBlock] at hk; omega)
    have ho : OwnK 6 w2 w.heap.size 85 (fun _ => True) MeC v2 l := ⟨xs, by simpa using hown2, HTW.out.mono fun _ _ h => fun u _ => h⟩
    clear hnil hg2 hown2
    go_wp2_with fail
    go_ret
    exact ⟨_, rfl, ho, hb2⟩

set_option maxHeartbeats 800000 in
theorem kclone_any (v : Value) (l : List Mk) (w : World) (hl : l.length ≤ 1000000) (hv : Mks w v l) :
    Calls Tryz.prog 40 #[v] w fun e w' => ∃ v', e = .returned v' ∧ OwnK 3 w' w.heap.size 89 (fun _ => True) MkC v' l ∧ Below w.heap.size w w' := by
  obtain ⟨A, c, rfl, hc1, hc2⟩ := hv.form
  have hnil := fun u : World => Lib.run_eql_slice_nil (P := Tryz.prog) u 36 89 A l.length c 0 0 markT.under
  cases A with
  | none =>
    have h0 : l = [] := by
      obtain ⟨xs, h1, h2⟩ := hv
      obtain ⟨A', c', hA, _, _, hk, hr⟩ := h1
      injection hA with hA _ _
      subst hA
      have := hr.noneEq
      have hf := flat_length hk
      rw [this] at hf
      have := h2.len
      simp only [List.length_nil] at hf
      exact List.eq_nil_of_length_eq_zero (by omega)
    subst h0
    simp only [Option.isNone_none, List.length_nil] at hnil
    clear hv
    go_enter Tryz.func40, Tryz.ntmps40
    go_wp2_with fail
    go_ret
    exact ⟨_, rfl, OwnK.nil _ _ _ _ _ _, Below.refl _ _⟩
  | some ad =>
    simp only [Option.isNone_some] at hnil
    have hb : Below w.heap.size w (w.alloc (.cells #[] 89)) := (Below.refl _ w).alloc (Nat.le_refl _) _
    obtain ⟨xs, hx, htw⟩ := hv
    have HX := Lib.hid (hx.below hb)
    have HTW := Lib.hid htw
    have hxl := htw.len
    have hone : ∀ y ∈ xs, ∀ u ∈ y, u.oneCell' = true := fun y hy u hu => by
      obtain ⟨i, hi⟩ := List.mem_iff_getElem?.1 hy
      have hil : i < l.length := by have := (List.getElem?_eq_some_iff.1 hi).1; omega
      obtain ⟨_, hyy⟩ := htw.at_ i l[i] y (List.getElem?_eq_getElem hil) hi
      subst hyy
      simp at hu
      rcases hu with rfl | rfl | rfl <;> rfl
    have hmade : OwnL 3 (w.alloc (.cells #[] 89)) w.heap.size 89 (.slice (some ⟨w.heap.size, 0, none⟩) 0 0) [] := ⟨World.ownsRow_made w #[] 0 (Nat.le_refl _) (by simp [maxLen]) (by simp), fun x hx => by cases hx⟩
    have HONE := Lib.hid hone
    have HMADE := Lib.hid hmade
    have hs1 : ([] : List (List Value)).length + xs.length ≤ maxLen := by simp only [maxLen, List.length_nil]; omega
    have hs2 : ([] : List (List Value)).length + xs.length ≤ 1000000 := by simp only [List.length_nil]; omega
    have HS1 := Lib.hid hs1
    have HS2 := Lib.hid hs2
    clear hx htw hone hmade hxl hs1 hs2 hl
    go_enter Tryz.func40, Tryz.ntmps40
    go_wp2_with (at_builtin; refine wpList_append_elems _ markT rfl _ _ rfl w.heap.size (.slice (some ⟨w.heap.size, 0, none⟩) 0 0) [] rfl HMADE.out _ xs rfl HX.out HONE.out HS1.out (by have := HS2.out; omega) (by simp) ?_)
    intro v2 w2 hown2 hg2 _
    have hb2 : Below w.heap.size w w2 := hb.grown hg2 (by simp) (by intro k hk; simp [Value.ownBlock] at hk; omega)
    have ho : OwnK 3 w2 w.heap.size 89 (fun _ => True) MkC v2 l := ⟨xs, by simpa using hown2, HTW.out.mono fun _ _ h => fun u _ => h⟩
    clear hnil hg2 hown2
    go_wp2_with fail
    go_ret
    exact ⟨_, rfl, ho, hb2⟩

set_option maxHeartbeats 3200000 in
theorem pros_any {w : World} {F : Nat → Prop} {p g : Nat} {m : Sm} {q : Pl} (h : PPx w F p g m q) (hq : q.fine 2000) :
    Calls Tryz.prog 20 #[.pointer (some ⟨p, 0, none⟩)] w fun e w' => ∃ (a b : Value) (F' : Nat → Prop), e = .returned (roV a b) ∧ PPx w' F' p g m q ∧ Goes w F w' F' ∧ Keep (fun x => x < w.heap.size ∨ F' x) (fun u => Mes u a q.rl ∧ Mks u b q.rk) w' := by
  have HP := Lib.hid h
  have hfew := hq.few2
  obtain ⟨Fs, G, a, b, rv, h1, _⟩ := h
  obtain ⟨A1, c1, rfl, _, _⟩ := h1.ros.here.1.form
  obtain ⟨A2, c2, rfl, _, _⟩ := h1.ros.here.2.form
  have HM : Hid (∀ u, Below w.heap.size w u → Mes u (.slice A1 q.rl.length c1) q.rl ∧ Mks u (.slice A2 q.rk.length c2) q.rk) := Lib.hid fun u hu => h1.ros u (Apt.of_below hu)
  have hplt := h1.blk.lt
  have HS : Hid (∀ u, Below w.heap.size w u → u.cell? ⟨p, 1, none⟩ = some (.slice A1 q.rl.length c1) ∧ u.cell? ⟨p, 2, none⟩ = some (.slice A2 q.rk.length c2)) := Lib.hid fun u hu => by
    have hb := h1.blk.below hu hplt
    have c0 := hb.cell 1
    have c4 := hb.cell 2
    simp at c0 c4
    exact ⟨c0, c4⟩
  have hb0 : Below w.heap.size w (w.alloc (.cells #[.slice none 0 0, .slice none 0 0] 60)) := (Below.refl _ _).alloc (Nat.le_refl _) _
  have HR0 : Hid (Blk (w.alloc (.cells #[.slice none 0 0, .slice none 0 0] 60)) w.heap.size 60 #[.slice none 0 0, .slice none 0 0]) := Lib.hid (Blk.new _ _ _)
  have HB0 := Lib.hid hb0
  have HLT := Lib.hid h1.lt
  generalize q.rl = rl at *
  generalize q.rk = rk at *
  obtain ⟨n1, hn1⟩ : ∃ z, z = rl.length := ⟨_, rfl⟩
  obtain ⟨n2, hn2⟩ : ∃ z, z = rk.length := ⟨_, rfl⟩
  rw [← hn1, ← hn2] at *
  have HN1 := Lib.hid hn1
  have HN2 := Lib.hid hn2
  have HFW := Lib.hid hfew
  clear h1 hb0 hn1 hn2 hfew hplt
  go_enter Tryz.func20, Tryz.ntmps20
  go_wp2_with fail
  revert HR0 HB0
  generalize w.alloc (.cells #[.slice none 0 0, .slice none 0 0] 60) = w0
  intro HR0 HB0
  refine wp_region_mix [(0, false), (1, false), (2, false), (3, false), (4, false), (6, false), (7, false), (8, false), (9, false), (10, false), (5, true), (11, true), (12, false), (13, true)] (fun u => Below w.heap.size w u) (by kernel_rfl) (by kernel_rfl) (by decide +kernel) rfl HB0.out.drew ?_
  repeat
    (refine mix_read (o := ⟨_, _, _, _, _, _⟩) (v := ?_) rfl (by rfl) (fun w' hU => ?_) ?_
     rotate_left
     obtain ⟨hU1, hU2⟩ := HS.out _ hU
     go_simp
     with_reducible rfl
     try simp only [Act.put, List.setIfInBounds_toArray, List.set_cons_zero, List.set_cons_succ])
  refine mix_step (o := ⟨_, _, _, _, _, _⟩) rfl (fun K hK => ?_)
  go_simp
  refine (mclone_any _ rl _ (by have := HFW.out; omega) (HM.out _ HB0.out.drew).1).mono ?_
  rintro e w1 ⟨v1, rfl, hv1, hb1⟩
  obtain ⟨A3, c3, rfl, _, _⟩ := hv1.form
  generalize hl1 : rl.length = l1 at *
  have HB1 := Lib.hid (HB0.out.drew.trans (hb1.mono HB0.out.drew.size))
  have HR1 := Lib.hid (Blk.below (HR0.out.drewN 1) hb1 HR0.out.lt)
  have HV1 := Lib.hid hv1
  have HZ0 : Hid (w.heap.size < w0.heap.size) := Lib.hid HR0.out.lt
  go_simp
  refine hK.out _ _ HB1.out ?_
  clear hK K hv1 hb1 HR0 hl1
  try simp only [Act.put, List.setIfInBounds_toArray, List.set_cons_zero, List.set_cons_succ]
  refine mix_step (o := ⟨_, _, _, _, _, _⟩) rfl (fun K hK => ?_)
  go_simp
  refine (kclone_any _ rk _ (by have := HFW.out; omega) (HM.out _ HB1.out).2).mono ?_
  rintro e w2 ⟨v2, rfl, hv2, hb2⟩
  obtain ⟨A4, c4, rfl, _, _⟩ := hv2.form
  generalize hl2 : rk.length = l2 at *
  have HB2 := Lib.hid (HB1.out.trans (hb2.mono HB1.out.size))
  have HR2 := Lib.hid (Blk.below HR1.out hb2 HR1.out.lt)
  have HV1' := Lib.hid (HV1.out.below hb2)
  have HV2 := Lib.hid hv2
  have HZ1 : Hid (w.heap.size < w1.heap.size) := Lib.hid HR1.out.lt
  go_simp
  refine hK.out _ _ HB2.out ?_
  clear hK K hv2 hb2 HR1 HV1 hl2
  try simp only [Act.put, List.setIfInBounds_toArray, List.set_cons_zero, List.set_cons_succ]
  repeat
    (refine mix_read (o := ⟨_, _, _, _, _, _⟩) (v := ?_) rfl (by rfl) (fun w' hU => ?_) ?_
     rotate_left
     obtain ⟨hU1, hU2⟩ := HS.out _ hU
     go_simp
     with_reducible rfl
     try simp only [Act.put, List.setIfInBounds_toArray, List.set_cons_zero, List.set_cons_succ])
  have r0 := HR2.out.cell 0
  have r1 := HR2.out.cell 1
  have f0 := HR2.out.frozen 0
  have f1 := HR2.out.frozen 1
  simp at r0 r1
  have hm3 := (Blk.set_ HR2.out 0 (.slice A3 l1 c3)).set_ 1 (.slice A4 l2 c4)
  simp only [List.setIfInBounds_toArray, List.set_cons_zero, List.set_cons_succ] at hm3
  have hg3 : w2.grownBy ((w2.setCell ⟨w.heap.size, 0, none⟩ (.slice A3 l1 c3)).setCell ⟨w.heap.size, 1, none⟩ (.slice A4 l2 c4)) (some w.heap.size) := grown_trans (grown_set _ _ _ _) (grown_set _ _ _ _)
  have HM3 := Lib.hid hm3
  have HG3 := Lib.hid hg3
  have HB3 := Lib.hid (HB2.out.grown hg3 HB2.out.size (by intro z hz; injection hz; omega))
  clear hm3 hg3
  refine mix_step (o := ⟨_, _, _, _, _, _⟩) rfl (fun K hK => ?_)
  go_simp
  refine hK.out _ _ HB3.out ?_
  clear hK K
  refine mix_done ?_
  go_wp2_with fail
  refine bodyPost_ret (v := roV (.slice A3 l1 c3) (.slice A4 l2 c4)) (by have c := HM3.out.cell; simp [results, Tryz.results20, go_sem, c]; try rfl) rfl ?_
  have hF := HLT.out
  obtain ⟨xs, o1, o2⟩ := HV1'.out.kept (bad' := fun _ => True) HG3.out (.inr fun e => by have := (HV1'.out.lt _ e).1; have := HZ0.out; have h9 : w0.drew.heap.size = w0.heap.size := rfl; omega) (fun _ _ => trivial) (fun _ _ => .inl trivial)
  obtain ⟨ys, k1, k2⟩ := HV2.out.kept (bad' := fun _ => True) HG3.out (.inr fun e => by have := (HV2.out.lt _ e).1; have := HZ1.out; omega) (fun _ _ => trivial) (fun _ _ => .inl trivial)
  have hbd : ∀ x, w.heap.size < x → ¬ (x < w.heap.size ∨ F x) := fun x hx h => by
    rcases h with h | h
    · omega
    · have := hF x h
      omega
  refine ⟨_, _, F, rfl, HP.out.keep (Apt.of_below HB3.out), Goes.of_below HB3.out, fun u hu => ⟨⟨xs, o1.lv.apt hu fun _ x hx => hbd x ?_, o2.mono fun _ _ hk => hk.here⟩, ⟨ys, k1.lv.apt hu fun _ x hx => hbd x ?_, k2.mono fun _ _ hk => hk.here⟩⟩⟩
  · have := (HV1'.out.lt x hx).1
    have := HZ0.out
    have h9 : w0.drew.heap.size = w0.heap.size := rfl
    omega
  · have := (HV2.out.lt x hx).1
    have := HZ1.out
    omega

set_option maxHeartbeats 3200000 in
theorem ppoll_any {w : World} {F : Nat → Prop} {p g : Nat} {m : Sm} {q : Pl} {N : Nat} (h : PPx w F p g m q) (hm : m.fine N) (hns : Nms m) (hN : N ≤ 1000) (hon : q.on = false) (hq : q.fine 2000) (hr : q.runs ≤ 1000) (hL : Keep F LdP w) :
    Calls Tryz.prog 23 #[.pointer (some ⟨p, 0, none⟩)] w fun e w' => ∃ (F' : Nat → Prop) (q' : Pl), e = .returned (errV (liR m).1.1) ∧ PPx w' F' p g (liR m).2 q' ∧ PlDone (liR m).1.1 (liR m).1.2.1 (liR m).1.2.2 q q' ∧ q'.fine 2000 ∧ Goes w F w' F' := by
  obtain ⟨qe, hrun, hdone⟩ := plRun_liR (m := m) hon (Nat.le_refl _)
  have hK := nsR_few m
  have hml := hm.len
  generalize (nsR m).2.1.length + (nsR m).2.2.length = K at hrun hK
  have HDONE := Lib.hid hdone
  have HL := Lib.hid hL
  have HR := Lib.hid hr
  have HST : Hid (∃ (Fk : Nat → Prop) (mk : Sm) (qk : Pl), PPx w Fk p g mk qk ∧ Goes w F w Fk ∧ mk.fine (N + 0) ∧ Nms mk ∧ qk.fine 2000 ∧ qk.runs = q.runs ∧ plRun (K + 1) mk qk = ((liR m).1.1, (liR m).2, qe) ∧ (K + 1 = 0 → qk.on = true)) :=
    Lib.hid ⟨F, m, q, h, Goes.refl _ _, hm, hns, hq, rfl, hrun, fun h => by omega⟩
  generalize liR m = li at *
  obtain ⟨⟨ec, el, ek⟩, mf⟩ := li
  simp only at HDONE HST ⊢
  clear hrun hdone hL hr h hm hns hq hon
  go_enter Tryz.func23, Tryz.ntmps23
  go_wp2_with fail
  go_loopg [] (K + 1) (fun gk wr => ∃ (i : Nat), i + gk = K + 1 ∧ Hid (∃ (Fk : Nat → Prop) (mk : Sm) (qk : Pl), PPx wr Fk p g mk qk ∧ Goes w F wr Fk ∧ mk.fine (N + i) ∧ Nms mk ∧ qk.fine 2000 ∧ qk.runs = q.runs ∧ plRun gk mk qk = (ec, mf, qe) ∧ (gk = 0 → qk.on = true)))
  case atStart => exact ⟨0, by omega, HST.out⟩
  case round =>
    obtain ⟨i, hi, HW⟩ := hrel
    clear HST
    obtain ⟨Fk, mk, qk, hP, hG, hfi, hnk, hqk, hruns, hpr, hz⟩ := HW.out
    clear HW
    have hg0 : gk ≠ 0 := fun e => by
      subst e
      rw [plRun] at hpr
      have e2 := (Prod.mk.inj (Prod.mk.inj hpr).2).2
      have h1 := hz rfl
      rw [e2, HDONE.out.off] at h1
      cases h1
    obtain ⟨gk2, rfl⟩ : ∃ x, gk = x + 1 := ⟨gk - 1, by omega⟩
    have hst := pstep_any hP hfi hnk (by omega) hqk (by have := HR.out; omega) (HL.out.go hG.apt hG.new)
    have hfin := plStep_fine (m := mk) hqk (by have := hfi.len; omega)
    have HG := Lib.hid hG
    have HFI := Lib.hid hfi.call
    have HNK : Hid (Nms (callS mk)) := Lib.hid fun o ho => hnk o ho
    have HFIN := Lib.hid hfin
    by_cases hE : (plStep mk qk).1 = true ∨ (plStep mk qk).2.1 ≠ 0
    · rw [plRun_end hE] at hpr
      have e1 := (Prod.mk.inj hpr).1
      have e2 := (Prod.mk.inj (Prod.mk.inj hpr).2).1
      have e3 := (Prod.mk.inj (Prod.mk.inj hpr).2).2
      rw [e1, e2, e3] at hst
      rw [e1] at hE
      rw [e3] at HFIN
      generalize (plStep mk qk).1 = bb at hst hE
      clear hP hG hfi hnk hqk hruns hpr hz hfin e1 e2 e3
      go_wp2_with fail
      refine hst.mono ?_
      rintro e w1 ⟨rfl, F1, hP1, hG1⟩
      have HP1 := Lib.hid hP1
      have HG1 := Lib.hid (HG.out.trans hG1)
      clear hst hP1 hG1
      cases bb with
      | true =>
        obtain ⟨ev, hev⟩ : ∃ z, z = errV ec := ⟨_, rfl⟩
        rw [← hev]
        go_wp2_with fail
        go_ret
        exact ⟨F1, qe, by rw [← hev]; rfl, HP1.out, HDONE.out, HFIN.out, HG1.out⟩
      | false =>
        have hc : ec ≠ 0 := hE.elim (fun h => by cases h) id
        rw [errV_code hc]
        go_wp2_with fail
        go_ret
        exact ⟨F1, qe, by rw [errV_code hc]; rfl, HP1.out, HDONE.out, HFIN.out, HG1.out⟩
    · have hb : (plStep mk qk).1 = false := by
        cases hx : (plStep mk qk).1 with
        | false => rfl
        | true => exact absurd (.inl hx) hE
      have hc : (plStep mk qk).2.1 = 0 := by
        by_cases hx : (plStep mk qk).2.1 = 0
        · exact hx
        · exact absurd (.inr hx) hE
      rw [plRun_on hb hc] at hpr
      have hmo := plStep_more hb hc
      rw [hb, hc] at hst
      simp only [errV_zero] at hst
      have HNX : Hid ((plStep mk qk).2.2.on = true ∧ (plStep mk qk).2.2.runs = q.runs ∧ plRun gk2 (callS mk) (plStep mk qk).2.2 = (ec, mf, qe)) := Lib.hid ⟨hmo.1, hmo.2.trans hruns, hpr⟩
      clear hP hG hfi hnk hqk hruns hpr hz hfin hb hc hmo hE
      go_wp2_with fail
      refine hst.mono ?_
      rintro e w1 ⟨rfl, F1, hP1, hG1⟩
      have HP1 := Lib.hid hP1
      have HG1 := Lib.hid (HG.out.trans hG1)
      clear hst hP1 hG1
      go_wp2_with fail
      go_roundg gk2
      case measure => omega
      case rel => exact ⟨i + 1, by omega, Lib.hid ⟨F1, callS mk, _, HP1.out, HG1.out, HFI.out, HNK.out, HFIN.out, HNX.out.2.1, HNX.out.2.2, fun _ => HNX.out.1⟩⟩

theorem ppx_store {w : World} {F : Nat → Prop} {p g : Nat} {m : Sm} {q : Pl} (h : PPx w F p g m q) : ∃ Fs : Nat → Prop, PSt w Fs g m ∧ (∀ x, Fs x → F x) ∧
    ∀ {w' : World} {Fs' : Nat → Prop} {m' : Sm}, PSt w' Fs' g m' → Goes w Fs w' Fs' → ∃ F' : Nat → Prop, PPx w' F' p g m' q ∧ Goes w F w' F' ∧ ∀ x, F' x → F x ∨ Fs' x := by
  obtain ⟨Fs, G, a, b, rv, h1, h2⟩ := h
  refine ⟨Fs, h1.st, h1.fs, fun {w' Fs' m'} hP hg => ⟨fun z => F z ∨ Fs' z, ⟨Fs', G, a, b, rv, h1.stored hP hg, ?_⟩, hg.wide18 h1.fs, fun x hx => hx⟩⟩
  rcases h2 with h2 | ⟨h2, r, v1, v2, v3, v4, h3, h4⟩
  · exact .inl h2
  · exact .inr ⟨h2, r, v1, v2, v3, v4, h3, h4.stored h1 hg⟩

theorem thePoll : PollK LdP PPx where
  later := fun h hb => h.below hb
  thing := ppx_thing
  new_nil := pnew_nil
  new := pnew_any
  step := fun h hm hns hN hq hr hL => (pstep_any h hm hns hN hq hr hL).mono fun _ _ ⟨he, F', h1, h2⟩ => ⟨F', he, h1, h2⟩
  poll := ppoll_any
  ros := pros_any
  runs := pruns_any
  store := ppx_store
  list := rlist_any

end Go.Proofs.YtgafidnbmoomiaaGreatDoor

/-
  A DRAWN REGION THAT FORKS AND ENDS IN A STORE of a cell that its own reads read: 'wp_region_mix3' with forks, over any program. No condition but what each theorem says.
  CONTRACT of the document's Poller.Step. Conditions: what it says.
  PollLists, walked over PollK. Conditions: what it says.
-/
import Derived.Test.YtgafidnbmoomiaaGreatDoorMix
import Derived.Test.YtgafidnbmoomiaaGreatDoorPoC
import Derived.Deep.DeepCutAuto
namespace Go.Proofs.YtgafidnbmoomiaaGreatDoor
open Go

inductive Ord5 where
  | done
  | read (i : Nat) (r : Ord5)
  | free (i : Nat) (r : Ord5)
  | step (i : Nat) (r : Ord5)
  | store (i : Nat) (r : Ord5)
  | both (i : Nat) (ri : Ord5) (j : Nat) (rj : Ord5)

def Ord5.size : Ord5 → Nat
  | .done => 0
  | .read _ r => r.size + 1
  | .free _ r => r.size + 1
  | .step _ r => r.size + 1
  | .store _ r => r.size + 1
  | .both _ ri _ _ => ri.size + 1

section
variable {P : Program} {ops : Array Oper} {Q : Exit → Act → World → Prop} {md : Region.Mode} {S : World → Prop} {L : Nat}

def mixB5 (md : Region.Mode) (ops : Array Oper) (L : Nat) : Ord5 → Array Bool → Bool
  | .done, listed => (Region.ready md ops listed).isEmpty
  | .read i r, listed => (Region.ready md ops listed).contains i && (Region.free md ops listed i && (reachB md ops i ops.size L && (i != L && (!(listed.getD L true) && mixB5 md ops L r (listed.setIfInBounds i true)))))
  | .free i r, listed => (Region.ready md ops listed).contains i && (Region.free md ops listed i && (i != L && mixB5 md ops L r (listed.setIfInBounds i true)))
  | .step i r, listed => (Region.ready md ops listed == [i]) && mixB5 md ops L r (listed.setIfInBounds i true)
  | .store i r, listed => (Region.ready md ops listed == [i]) && ((listed.setIfInBounds i true).getD L true && mixB5 md ops L r (listed.setIfInBounds i true))
  | .both i ri j rj, listed => (Region.ready md ops listed == [i, j]) && ((ri.size == rj.size) && (mixB5 md ops L ri (listed.setIfInBounds i true) && mixB5 md ops L rj (listed.setIfInBounds j true)))

def wpMix5 (P : Program) (ops : Array Oper) (Q : Exit → Act → World → Prop) (S : World → Prop) : Ord5 → Act → World → Prop
  | .done, a, w => Q .normal a w
  | .read i r, a, w => ∃ o v, ops[i]? = some o ∧ YieldsIf P ops S o v a ∧ wpMix5 P ops Q S r (a.put o.dst v) w
  | .free i r, a, w => ∃ o v, ops[i]? = some o ∧ YieldsIf P ops (fun _ => True) o v a ∧ wpMix5 P ops Q S r (a.put o.dst v) w
  | .step i r, a, w => wpOp P ops Q i (fun a' w' => S w' ∧ wpMix5 P ops Q S r a' w') a w
  | .store i r, a, w => wpOp P ops Q i (fun a' w' => wpMix5 P ops Q S r a' w') a w
  | .both i ri j rj, a, w => wpOp P ops Q i (fun a' w' => S w' ∧ wpMix5 P ops Q S ri a' w') a w ∧ wpOp P ops Q j (fun a' w' => S w' ∧ wpMix5 P ops Q S rj a' w') a w

theorem mix5_sound (hs : Region.noSelect ops = true) (hQ : ∀ c a d v w, Q (.panic c) (Act.put a d v) w → Q (.panic c) a w) :
    ∀ (r : Ord5) (listed : Array Bool) (a : Act) (w : World), mixB5 md ops L r listed = true → closedO md ops listed → (listed.getD L true = false → S w) → wpMix5 P ops Q S r a w → wpAnyF P md ops Q S L r.size listed a w
  | .done, listed, a, w, hB, _, _, h => by
    have hr : Region.ready md ops listed = [] := by simpa [mixB5] using hB
    exact ⟨hr, h⟩
  | .read i r, listed, a, w, hB, hc, hS, h => by
    simp only [mixB5, Bool.and_eq_true, Bool.not_eq_true', bne_iff_ne, ne_eq] at hB
    obtain ⟨h1, h2, h3, h4, h5, h6⟩ := hB
    obtain ⟨o, v, hi, hy, hr⟩ := h
    have hri : i ∈ Region.ready md ops listed := by simpa using h1
    exact wpAnyF_first hi (Region.noSelect_spec hs) (fun c a w => hQ c a _ _ w) h3 h4 r.size listed a w (Region.free_spec hi h2) hc h5 hri hy (hS h5) (mix5_sound hs hQ r _ _ _ h6 (hc.add hri) (fun _ => hS h5) hr)
  | .free i r, listed, a, w, hB, hc, hS, h => by
    simp only [mixB5, Bool.and_eq_true, bne_iff_ne, ne_eq] at hB
    obtain ⟨h1, h2, h4, h6⟩ := hB
    obtain ⟨o, v, hi, hy, hr⟩ := h
    have hri : i ∈ Region.ready md ops listed := by simpa using h1
    exact wpAnyF_free hi (Region.noSelect_spec hs) (fun c a w => hQ c a _ _ w) h4 r.size listed a w (Region.free_spec hi h2) hri hy hS (mix5_sound hs hQ r _ _ _ h6 (hc.add hri) (fun e => hS (by rw [getD_set_ne true h4] at e; exact e)) hr)
  | .step i r, listed, a, w, hB, hc, hS, h => by
    simp only [mixB5, Bool.and_eq_true, beq_iff_eq] at hB
    obtain ⟨h1, h6⟩ := hB
    refine ⟨fun h0 => (by rw [h1] at h0; cases h0), fun j hj => ?_⟩
    have hj' := hj
    rw [h1] at hj'
    obtain rfl : j = i := by simpa using hj'
    exact wpOp_mono (fun a' w' ⟨hS', h'⟩ => ⟨fun _ => hS', mix5_sound hs hQ r _ a' w' h6 (hc.add hj) (fun _ => hS') h'⟩) h
  | .store i r, listed, a, w, hB, hc, hS, h => by
    simp only [mixB5, Bool.and_eq_true, beq_iff_eq] at hB
    obtain ⟨h1, h2, h6⟩ := hB
    refine ⟨fun h0 => (by rw [h1] at h0; cases h0), fun j hj => ?_⟩
    have hj' := hj
    rw [h1] at hj'
    obtain rfl : j = i := by simpa using hj'
    have hno : ∀ {p : Prop}, (listed.setIfInBounds j true).getD L true = false → p := fun e => by rw [h2] at e; cases e
    exact wpOp_mono (fun a' w' h' => ⟨fun e => hno e, mix5_sound hs hQ r _ a' w' h6 (hc.add hj) (fun e => hno e) h'⟩) h
  | .both i ri j rj, listed, a, w, hB, hc, hS, h => by
    simp only [mixB5, Bool.and_eq_true, beq_iff_eq] at hB
    obtain ⟨h1, h2, h3, h4⟩ := hB
    refine ⟨fun h0 => (by rw [h1] at h0; cases h0), fun k hk => ?_⟩
    have hk' := hk
    rw [h1] at hk'
    rcases (by simpa using hk' : k = i ∨ k = j) with rfl | rfl
    · exact wpOp_mono (fun a' w' ⟨hS', h'⟩ => ⟨fun _ => hS', mix5_sound hs hQ ri _ a' w' h3 (hc.add hk) (fun _ => hS') h'⟩) h.1
    · refine wpOp_mono (fun a' w' ⟨hS', h'⟩ => ⟨fun _ => hS', ?_⟩) h.2
      have := mix5_sound hs hQ rj _ a' w' h4 (hc.add hk) (fun _ => hS') h'
      rw [← h2] at this
      exact this

theorem wp_region_mix5 {id : Nat} {l : List Oper} (L : Nat) (order : Ord5) (S : World → Prop) {a : Act} {w : World} (hm : P.follows .mixedOrders = true) (hs : Region.noSelect l.toArray = true) (hB : mixB5 .any l.toArray L order (Array.replicate l.length false) = true) (hlen : order.size = l.length)
    (hS : S w.drew) (h : wpMix5 P l.toArray (NoPanic Q) S order a w.drew) : (Code.region id l.toArray true).wp P Q a w := by
  refine wp_region_noPanic (wp_region_any hm (wpAny_of_F (S := S) (L := L) _ _ _ _ ?_))
  have hc : closedO .any l.toArray (Array.replicate l.length false) := fun k ok _ hl => by
    rw [Array.getD_eq_getD_getElem?, Array.getElem?_replicate] at hl
    split at hl <;> cases hl
  have := mix5_sound (md := .any) (Q := NoPanic Q) (L := L) hs (fun _ _ _ _ _ h => h) order (Array.replicate l.length false) a w.drew hB hc (fun _ => hS) h
  rw [hlen] at this
  simpa using this

theorem mix5_read {i : Nat} {r : Ord5} {o : Oper} {v : Value} {a : Act} {w : World} (hi : ops[i]? = some o) (hw : Region.wanted o (yielded ops a.tmps) = true)
    (hy : ∀ w', S w' → (execOp a.eval o).run P w' = .ok (.value v) w') (h : wpMix5 P ops Q S r (a.put o.dst v) w) : wpMix5 P ops Q S (.read i r) a w :=
  ⟨o, v, hi, .inl ⟨hw, hy⟩, h⟩

theorem mix5_free {i : Nat} {r : Ord5} {o : Oper} {v : Value} {a : Act} {w : World} (hi : ops[i]? = some o) (hw : Region.wanted o (yielded ops a.tmps) = true)
    (hy : ∀ w', (execOp a.eval o).run P w' = .ok (.value v) w') (h : wpMix5 P ops Q S r (a.put o.dst v) w) : wpMix5 P ops Q S (.free i r) a w :=
  ⟨o, v, hi, .inl ⟨hw, fun w' _ => hy w'⟩, h⟩

theorem mix5_step {i : Nat} {r : Ord5} {o : Oper} {a : Act} {w : World} (hi : ops[i]? = some o)
    (h : ∀ K : Act → World → Prop, Shut (∀ a w, S w → wpMix5 P ops Q S r a w → K a w) → if Region.wanted o (yielded ops a.tmps) = true then Oper.wp P o a w K Q else K (a.put o.dst undef) w) : wpMix5 P ops Q S (.step i r) a w :=
  wpOp_step hi fun K hK => h K fun a w hS hW => hK a w ⟨hS, hW⟩

theorem mix5_store {i : Nat} {r : Ord5} {o : Oper} {a : Act} {w : World} (hi : ops[i]? = some o)
    (h : ∀ K : Act → World → Prop, Shut (∀ a w, wpMix5 P ops Q S r a w → K a w) → if Region.wanted o (yielded ops a.tmps) = true then Oper.wp P o a w K Q else K (a.put o.dst undef) w) : wpMix5 P ops Q S (.store i r) a w :=
  wpOp_step hi fun K hK => h K fun a w hW => hK a w hW

theorem mix5_both {i j : Nat} {ri rj : Ord5} {a : Act} {w : World} (h1 : wpMix5 P ops Q S (.step i ri) a w) (h2 : wpMix5 P ops Q S (.step j rj) a w) : wpMix5 P ops Q S (.both i ri j rj) a w := ⟨h1, h2⟩

theorem mix5_done {a : Act} {w : World} (h : Q .normal a w) : wpMix5 P ops (NoPanic Q) S .done a w := h

end

open Go.RowKit
set_option maxRecDepth 100000

structure PlV (q : Pl) (rl rk lv mk gl gk : Value) (u : World) : Prop where
  rl : Mes u rl q.rl
  rk : Mks u rk q.rk
  lv : Us u lv q.lv
  km : Us u mk q.mr
  gl : Mes u gl q.gl
  gk : Mks u gk q.gk

def DPl (bad : Nat → Prop) (z y : Nat) (q : Pl) (w : World) : Prop :=
  ∃ rl rk lv mk gl gk, Blk w z 41 #[.pointer (some ⟨y, 0, none⟩), rl, rk, .int .i64 (q.runs : Int), .bool q.on, lv, mk, gl, gk] ∧ Keep bad (PlV q rl rk lv mk gl gk) w

theorem DPl.keep {bad bad' : Nat → Prop} {z y : Nat} {q : Pl} {w w' : World} (h : DPl bad z y q w) (ha : Apt bad' w w') (hz : ¬ bad' z) (hb : ∀ x, x < w.heap.size → bad' x → bad x) : DPl bad z y q w' := by
  obtain ⟨rl, rk, lv, mk, gl, gk, h1, h2⟩ := h
  exact ⟨rl, rk, lv, mk, gl, gk, (ha.block z h1.lt hz).trans h1, h2.go (ha.mono hb) fun q hq => .inl hq⟩

theorem ownL_none18 (w : World) (k base : Nat) (e : TypeId) (hb : base ≤ w.heap.size) : OwnL k (w.alloc (.cells #[] e)) base e (.slice (some ⟨w.heap.size, 0, none⟩) 0 0) [] :=
  ⟨World.ownsRow_made w #[] 0 hb (by simp [maxLen]) (by simp), fun x hx => by cases hx⟩

def meRw (m : Me) : List Value := [.int .u64 m.id, .int .i64 m.lv, .int .i64 m.st, .int .i64 m.en, .int .i64 m.pg, .int .i64 m.tr]

def mkRw (m : Mk) : List Value := [.int .u64 m.id, .int .i64 m.at_, .int .u64 m.by_]

theorem Mes.lv {w : World} {v : Value} {l : List Me} (h : Mes w v l) : Lv 6 w v (l.map meRw) := by
  obtain ⟨xs, h1, h2⟩ := h
  have : xs = l.map meRw := List.ext_getElem? fun i => by
    rw [List.getElem?_map]
    by_cases hi : i < l.length
    · obtain ⟨x, hx, _, rfl⟩ := h2.right (List.getElem?_eq_getElem hi)
      rw [hx, List.getElem?_eq_getElem hi]
      rfl
    · rw [List.getElem?_eq_none (by have := h2.len; omega), List.getElem?_eq_none (by omega)]
      rfl
  rw [← this]
  exact h1

theorem Mks.lv {w : World} {v : Value} {l : List Mk} (h : Mks w v l) : Lv 3 w v (l.map mkRw) := by
  obtain ⟨xs, h1, h2⟩ := h
  have : xs = l.map mkRw := List.ext_getElem? fun i => by
    rw [List.getElem?_map]
    by_cases hi : i < l.length
    · obtain ⟨x, hx, _, rfl⟩ := h2.right (List.getElem?_eq_getElem hi)
      rw [hx, List.getElem?_eq_getElem hi]
      rfl
    · rw [List.getElem?_eq_none (by have := h2.len; omega), List.getElem?_eq_none (by omega)]
      rfl
  rw [← this]
  exact h1

theorem Mes.of_lv {w : World} {v : Value} {l : List Me} (h : Lv 6 w v (l.map meRw)) (ho : ∀ m ∈ l, m.ok) : Mes w v l :=
  ⟨_, h, by simp, fun i a b h1 h2 => by
    rw [List.getElem?_map, h1] at h2
    exact ⟨ho a (List.mem_of_getElem? h1), (Option.some.inj h2).symm⟩⟩

theorem Mks.of_lv {w : World} {v : Value} {l : List Mk} (h : Lv 3 w v (l.map mkRw)) (ho : ∀ m ∈ l, m.ok) : Mks w v l :=
  ⟨_, h, by simp, fun i a b h1 h2 => by
    rw [List.getElem?_map, h1] at h2
    exact ⟨ho a (List.mem_of_getElem? h1), (Option.some.inj h2).symm⟩⟩

theorem Us.rest {w : World} {A : Option Addr} {n c : Nat} {x : Nat} {r : List Nat} (h : Us w (.slice A n c) (x :: r)) : Us w (.slice (if c = 1 then A else A.map (·.add 1)) (n - 1) (c - 1)) r := by
  have hn : n = r.length + 1 := by
    obtain ⟨A', c', e, _, _⟩ := h.form
    injection e with _ e _
  have := Lv.from_ h 1 (by omega)
  show Lv 1 w _ (r.map uC)
  simpa using this

theorem apt_new {y : Nat} {w W W' : World} {q : Nat} (h : Apt (fun t => t = y) w W) (hg : W.grownBy W' (some q)) (hq : w.heap.size ≤ q) : Apt (fun t => t = y) w W' :=
  ⟨hg.os.trans h.os, hg.tape.trans h.tape, hg.output.trans h.output, Nat.le_trans h.size hg.size, fun t ht hn => (hg.block t (Nat.lt_of_lt_of_le ht h.size) fun e => by have := Option.some.inj e; omega).trans (h.block t ht hn)⟩

theorem DS_new {base y : Nat} {v : Value} {m : Sm} {W W' : World} {q : Nat} (h : DS W base y v m) (hg : W.grownBy W' (some q)) (hy : y ≠ q) (hv : v.ownBlock ≠ some q) : DS W' base y v m :=
  ⟨(hg.block y h.blk.lt fun e => hy (Option.some.inj e)).trans h.blk, h.row.kept hg (.inr hv), h.ne, h.ge⟩

set_option maxHeartbeats 25600000 in
theorem DPStep_any {base z y : Nat} {v : Value} {m : Sm} {q : Pl} {N : Nat} {bad : Nat → Prop} (w : World) (hD : DS w base y v m) (hP : DPl bad z y q w) (hm : m.fine N) (hN : N ≤ 2000) (hq : q.fine 2000) (hr : q.runs ≤ 1000000) (hby : bad y) (hbz : bad z) (hlt : ∀ x, bad x → x < w.heap.size) (hzy : z ≠ y) (hvz : v.ownBlock ≠ some z) :
    Calls Tryz.prog 10 #[.pointer (some ⟨z, 0, none⟩)] w fun e w' => e = .returned (.tuple #[.bool (plStep m q).1, .int .i64 (plStep m q).2.1]) ∧ DS w' base y v (callS m) ∧ DPl bad z y (plStep m q).2.2 w' ∧ Apt (fun x => x = y ∨ x = z) w w' := by
  obtain ⟨rl, rk, lv, mk, gl, gk, hB, hK⟩ := hP
  have hdn := DNames_any w hD hm (by omega)
  have HD := Lib.hid hD
  have HDM := Lib.hid fun id u (hd : DS u base y v m) (hid : id < 18446744073709551616) => DMeta_any id u hd (hm.ok (by omega)) (by have := hm.calls1; omega) hid
  have HDK := Lib.hid fun id u (hd : DS u base y v m) (hid : id < 18446744073709551616) => DMarker_any id u hd (hm.ok (by omega)) (by have := hm.calls1; omega) hid
  have HQ := Lib.hid hq
  have HFEW := Lib.hid (plGo_few hq (show m.l.length ≤ 2000 by have := hm.len; omega))
  have HRUN : Hid ((plGo m q).2.runs ≤ 1000000) := Lib.hid (by rw [plGo_runs]; exact hr)
  have HLT := Lib.hid hlt
  have HBY : Hid (bad y ∧ bad z) := Lib.hid ⟨hby, hbz⟩
  have HZY : Hid (z ≠ y ∧ v.ownBlock ≠ some z) := Lib.hid ⟨hzy, hvz⟩
  have HYW : Hid (y < w.heap.size) := Lib.hid hD.blk.lt
  obtain ⟨Arl, crl, rfl, _, _⟩ := hK.here.rl.form
  obtain ⟨Ark, crk, rfl, _, _⟩ := hK.here.rk.form
  obtain ⟨Alv, clv, rfl, _, _⟩ := hK.here.lv.form
  obtain ⟨Amk, cmk, rfl, _, _⟩ := hK.here.km.form
  obtain ⟨Agl, cgl, rfl, _, _⟩ := hK.here.gl.form
  obtain ⟨Agk, cgk, rfl, _, _⟩ := hK.here.gk.form
  have HB := Lib.hid hB
  have HK := Lib.hid hK
  have k0 := hB.cell 0
  have k4 := hB.cell 4
  simp at k0 k4
  clear hD hB hK hm hq hlt hby hbz hzy hvz
  go_enter Tryz.func10, Tryz.ntmps10
  go_upto_if 16 with fail
  go_cut [4] (fun cv wc => ∃ (c : Int) (p' : Pl), cv = .int .i64 c ∧ Hid (plGo m q = (c, p') ∧ p'.on = true ∧ DS wc base y v (callS m) ∧ DPl bad z y p' wc ∧ Apt (fun x => x = y ∨ x = z) w wc))
  case first =>
    obtain ⟨on, lv, mr, gl, gk, rl, rk, runs⟩ := q
    simp only at HB HK k4
    have HSET : Hid (∀ (u u' : World) (i : Nat) (x : Value), Apt (fun t => t = y ∨ t = z) u' u → Apt (fun t => t = y ∨ t = z) u' (u.setCell ⟨z, i, none⟩ x)) := Lib.hid fun u u' i x h => h.trans (Apt.of_grown (grown_set u z i x) fun t ht => .inr (Option.some.inj ht).symm)
    have HDS : Hid (∀ (u : World) (i : Nat) (x : Value), DS u base y v (callS m) → DS (u.setCell ⟨z, i, none⟩ x) base y v (callS m)) := Lib.hid fun u i x h => ⟨((grown_set u z i x).block y h.blk.lt fun e => HZY.out.1 (Option.some.inj e).symm).trans h.blk, h.row.kept (grown_set u z i x) (.inr HZY.out.2), h.ne, h.ge⟩
    have HGB : Hid (∀ u, Apt (fun t => t = y ∨ t = z) w u → Keep bad (PlV ⟨on, lv, mr, gl, gk, rl, rk, runs⟩ (.slice Arl rl.length crl) (.slice Ark rk.length crk) (.slice Alv lv.length clv) (.slice Amk mr.length cmk) (.slice Agl gl.length cgl) (.slice Agk gk.length cgk)) u) := Lib.hid fun u hu => HK.out.go (hu.mono fun t _ ht => by
      rcases ht with rfl | rfl
      · exact HBY.out.1
      · exact HBY.out.2) fun _ h => .inl h
    have HZW : Hid (z < w.heap.size) := Lib.hid HB.out.lt
    cases on with
    | false =>
      have HPG := Lib.hid (plGo_off (m := m) (p := ⟨false, lv, mr, gl, gk, rl, rk, runs⟩) rfl)
      generalize nsR m = nm at hdn HPG
      obtain ⟨nc, na, nb⟩ := nm
      simp only at hdn HPG
      go_wp2_with fail
      refine hdn.mono ?_
      rintro e w2 ⟨a, b, rfl, hD2, hua, hub, _, hA2⟩
      have hB2 := (hA2.block z HZW.out HZY.out.1).trans HB.out
      have HB2 : Hid (Blk w2 z 41 #[.pointer (some ⟨y, 0, none⟩), .slice Arl rl.length crl, .slice Ark rk.length crk, .int .i64 (runs : Int), .bool false, .slice Alv lv.length clv, .slice Amk mr.length cmk, .slice Agl gl.length cgl, .slice Agk gk.length cgk]) := Lib.hid hB2
      have HD2 := Lib.hid hD2
      have HA2 : Hid (Apt (fun t => t = y ∨ t = z) w w2) := Lib.hid (hA2.mono fun t _ ht => .inl ht)
      have HUA := Lib.hid hua
      have HUB := Lib.hid hub
      obtain ⟨Aa, ca, rfl, _, _⟩ := hua.us.form
      obtain ⟨Ab, cb, rfl, _, _⟩ := hub.us.form
      have hB2 := HB2.out
      have hfz := fun i => hB2.frozen i
      have k4' := hB2.cell 4
      have k5 := hB2.cell 5
      have k6 := hB2.cell 6
      have k7 := hB2.cell 7
      have k8 := hB2.cell 8
      simp at k4' k5 k6 k7 k8
      clear hdn hB2 hD2 hua hub hA2 k0 k4
      go_wp2_with fail
      go_meet
      case rel =>
        have hb := ((((HB2.out.set_ 4 (.bool true)).set_ 5 (.slice Aa na.length ca)).set_ 6 (.slice Ab nb.length cb)).set_ 7 (.slice none 0 0)).set_ 8 (.slice none 0 0)
        have hw5 := HSET.out _ w 8 (.slice none 0 0) (HSET.out _ _ 7 (.slice none 0 0) (HSET.out _ _ 6 (.slice Ab nb.length cb) (HSET.out _ _ 5 (.slice Aa na.length ca) (HSET.out _ _ 4 (.bool true) HA2.out))))
        have hw6 := HSET.out _ w2 8 (.slice none 0 0) (HSET.out _ _ 7 (.slice none 0 0) (HSET.out _ _ 6 (.slice Ab nb.length cb) (HSET.out _ _ 5 (.slice Aa na.length ca) (HSET.out _ _ 4 (.bool true) (Apt.refl _ _)))))
        refine ⟨nc, _, rfl, Lib.hid ⟨HPG.out, rfl, HDS.out _ _ _ (HDS.out _ _ _ (HDS.out _ _ _ (HDS.out _ _ _ (HDS.out _ _ _ HD2.out)))), ⟨_, _, _, _, _, _, (by simpa using hb), fun u hu => ?_⟩, hw5⟩⟩
        have h := HGB.out _ hw5 u hu
        have hux : Apt bad w2 u := (hw6.mono fun t _ ht => by
          rcases ht with rfl | rfl
          · exact HBY.out.1
          · exact HBY.out.2).trans hu
        exact ⟨h.rl, h.rk, (OwnL.apt HUA.out hux fun t ht hb => by have := (HUA.out.lt t ht).1; have := HLT.out t hb; omega).lv, (OwnL.apt HUB.out hux fun t ht hb => by have := (HUB.out.lt t ht).1; have := HLT.out t hb; omega).lv, Mes.nil u, Mks.nil u⟩
    | true =>
      cases lv with
      | cons id r =>
        have HPG := Lib.hid (plGo_lv (m := m) (id := id) (r := r) (k := mr) (gl := gl) (gk := gk) (rl := rl) (rk := rk) (n := runs))
        have HID : Hid (id < 18446744073709551616) := Lib.hid (HQ.out.lv id (List.mem_cons_self ..))
        simp only [List.length_cons] at HB HK HGB k4
        have HCAP : Hid (r.length + 1 ≤ clv) := Lib.hid (by
          obtain ⟨A9, c9, e, h1, _⟩ := HK.out.here.lv.form
          have e3 : clv = c9 := by
            injection e
          rw [e3]
          simpa using h1)
        obtain ⟨gq, oq, hA0, hgq, xc0⟩ := Us.cell HK.out.here.lv (k := 0) (x := id) rfl
        subst hA0
        have HX0 : Hid (∀ u, Apt (fun t => t = y ∨ t = z) w u → u.cell? ⟨gq, oq, none⟩ = some (.int .u64 (id : Int))) := Lib.hid fun u hu => by
          obtain ⟨g', o', e, _, x⟩ := Us.cell (HGB.out u hu).here.lv (k := 0) (x := id) rfl
          injection e with e
          injection e with e1 e2
          subst e1 e2
          simpa using x
        have HS : Hid (∀ u, Apt (fun t => t = y) w u → u.cell? ⟨z, 0, none⟩ = some (.pointer (some ⟨y, 0, none⟩)) ∧ u.cell? ⟨z, 5, none⟩ = some (.slice (some ⟨gq, oq, none⟩) (r.length + 1) clv) ∧ u.cell? ⟨gq, oq, none⟩ = some (.int .u64 (id : Int))) := Lib.hid fun u hu => by
          have hb := ((hu.block z HZW.out HZY.out.1).trans HB.out : Blk u z 41 _)
          have h0 := Blk.cell hb 0
          have h5 := Blk.cell hb 5
          simp at h0 h5
          exact ⟨h0, h5, HX0.out u (hu.mono fun t _ ht => .inl ht)⟩
        have HMO : Hid (meR m id).2.ok := Lib.hid (meR_ok m id)
        obtain ⟨mc, hmc⟩ : ∃ u, u = (meR m id).1 := ⟨_, rfl⟩
        obtain ⟨mm, hmm⟩ : ∃ u, u = (meR m id).2 := ⟨_, rfl⟩
        rw [← hmm] at HMO HPG
        rw [← hmc] at HPG
        have HOF : Hid (meR m id = (mc, mm)) := Lib.hid (by rw [hmc, hmm])
        obtain ⟨x0, x1, x2, x3, x4, x5⟩ := mm
        have k5 := (Blk.cell HB.out 5)
        simp at k5
        have h0r : decide ((0 : Int) < (r.length : Int) + 1) = true := decide_eq_true (by omega)
        clear hmc hmm hdn xc0 hgq
        go_upto_region 10 with fail
        go_cut [8, 9] (fun pv cv wc => ∃ q8 : Nat, pv = .pointer (some ⟨q8, 0, none⟩) ∧ cv = .int .i64 mc ∧ Hid (Blk wc q8 85 #[.int .u64 x0, .int .i64 x1, .int .i64 x2, .int .i64 x3, .int .i64 x4, .int .i64 x5] ∧ w.heap.size ≤ q8 ∧ DS wc base y v (callS m) ∧ Apt (fun t => t = y) w wc))
        case first =>
          refine wp_region_mix4 (.read 0 (.read 1 (.read 2 (.read 3 (.read 4 (.read 5 (.read 6 (.read 7 (.read 8 (.read 9 (.both 10 (.read 11 (.read 12 (.read 13 (.step 14 (.step 15 (.read 16 .done)))))) 14 (.step 10 (.read 11 (.read 12 (.read 13 (.step 15 (.read 16 .done))))))))))))))))) (fun u => Apt (fun t => t = y) w u) (by kernel_rfl) (by kernel_rfl) (by decide +kernel) rfl (Apt.of_below (Below.refl _ _).drew) ?_
          repeat
            (refine mix4_read (o := ⟨_, _, _, _, _, _⟩) (v := ?_) rfl (by rfl) (fun w' hU => ?_) ?_
             rotate_left
             obtain ⟨j0, j1, j2⟩ := HS.out _ hU
             go_simp
             with_reducible rfl
             try simp only [Act.put, List.setIfInBounds_toArray, List.set_cons_zero, List.set_cons_succ])
          refine mix4_both ?_ ?_
          · refine mix4_step (o := ⟨_, _, _, _, _, _⟩) rfl (fun K hK => ?_)
            go_simp
            refine (HDM.out id _ (HD.out.below (Below.refl _ _).drew) HID.out).mono ?_
            rintro e W2 ⟨rfl, hD', hA'⟩
            rw [HOF.out]
            simp only [meV]
            have HA2 : Hid (Apt (fun t => t = y) w W2) := Lib.hid ((Apt.of_below (Below.refl _ _).drew).trans hA')
            have HD2 : Hid (DS W2 base y v (callS m)) := Lib.hid hD'
            refine hK.out _ _ HA2.out ?_
            clear hK K hD' hA'
            try simp only [Act.put, List.setIfInBounds_toArray, List.set_cons_zero, List.set_cons_succ]
            repeat
              (refine mix4_read (o := ⟨_, _, _, _, _, _⟩) (v := ?_) rfl (by rfl) (fun w' hU => ?_) ?_
               rotate_left
               go_simp
               with_reducible rfl
               try simp only [Act.put, List.setIfInBounds_toArray, List.set_cons_zero, List.set_cons_succ])
            refine mix4_step (o := ⟨_, _, _, _, _, _⟩) rfl (fun K hK => ?_)
            go_simp
            obtain ⟨W4, hW4⟩ : ∃ u, u = W2.alloc (.cells #[.int .u64 0, .int .i64 0, .int .i64 0, .int .i64 0, .int .i64 0, .int .i64 0] 85) := ⟨_, rfl⟩
            obtain ⟨q8, hq8⟩ : ∃ u, u = W2.heap.size := ⟨_, rfl⟩
            have HQ4 : Hid (Blk W4 q8 85 #[.int .u64 0, .int .i64 0, .int .i64 0, .int .i64 0, .int .i64 0, .int .i64 0]) := Lib.hid (by rw [hW4, hq8]; exact Blk.new _ _ _)
            have hb4 : Below W2.heap.size W2 W4 := by rw [hW4]; exact (Below.refl _ _).alloc (Nat.le_refl _) _
            have HQG : Hid (w.heap.size ≤ q8) := Lib.hid (by rw [hq8]; exact HA2.out.size)
            have HQY : Hid (y ≠ q8 ∧ v.ownBlock ≠ some q8) := Lib.hid ⟨by have := HD2.out.blk.lt; omega, fun e => by have := HD2.out.row.lt q8 e; omega⟩
            have HA4 : Hid (Apt (fun t => t = y) w W4) := Lib.hid (HA2.out.trans (Apt.of_below hb4))
            have HD4 := Lib.hid (HD2.out.below hb4)
            try rw [← hW4]
            try rw [← hq8]
            refine hK.out _ _ HA4.out ?_
            clear hK K hW4 hq8 hb4 HA2 HD2
            try simp only [Act.put, List.setIfInBounds_toArray, List.set_cons_zero, List.set_cons_succ]
            refine mix4_step (o := ⟨_, _, _, _, _, _⟩) rfl (fun K hK => ?_)
            have hfz := fun i => HQ4.out.frozen i
            have z0 := HQ4.out.cell 0
            have z1 := HQ4.out.cell 1
            have z2 := HQ4.out.cell 2
            have z3 := HQ4.out.cell 3
            have z4 := HQ4.out.cell 4
            have z5 := HQ4.out.cell 5
            simp at z0 z1 z2 z3 z4 z5
            go_simp
            have hm5 := setall6 q8 HQ4.out (.int .u64 x0) (.int .i64 x1) (.int .i64 x2) (.int .i64 x3) (.int .i64 x4) (.int .i64 x5)
            have hg5 := gset6 W4 q8 (.int .u64 x0) (.int .i64 x1) (.int .i64 x2) (.int .i64 x3) (.int .i64 x4) (.int .i64 x5)
            have HQ5 := Lib.hid hm5
            have HA5 : Hid (Apt (fun t => t = y) w ((((((W4.setCell ⟨q8, 0, none⟩ (.int .u64 x0)).setCell ⟨q8, 1, none⟩ (.int .i64 x1)).setCell ⟨q8, 2, none⟩ (.int .i64 x2)).setCell ⟨q8, 3, none⟩ (.int .i64 x3)).setCell ⟨q8, 4, none⟩ (.int .i64 x4)).setCell ⟨q8, 5, none⟩ (.int .i64 x5))) := Lib.hid (apt_new HA4.out hg5 HQG.out)
            have HD5 : Hid (DS ((((((W4.setCell ⟨q8, 0, none⟩ (.int .u64 x0)).setCell ⟨q8, 1, none⟩ (.int .i64 x1)).setCell ⟨q8, 2, none⟩ (.int .i64 x2)).setCell ⟨q8, 3, none⟩ (.int .i64 x3)).setCell ⟨q8, 4, none⟩ (.int .i64 x4)).setCell ⟨q8, 5, none⟩ (.int .i64 x5)) base y v (callS m)) := Lib.hid (DS_new HD4.out hg5 HQY.out.1 HQY.out.2)
            refine hK.out _ _ HA5.out ?_
            clear hK K hm5 hg5 hfz z0 z1 z2 z3 z4 z5
            try simp only [Act.put, List.setIfInBounds_toArray, List.set_cons_zero, List.set_cons_succ]
            repeat
              (refine mix4_read (o := ⟨_, _, _, _, _, _⟩) (v := ?_) rfl (by rfl) (fun w' hU => ?_) ?_
               rotate_left
               go_simp
               with_reducible rfl
               try simp only [Act.put, List.setIfInBounds_toArray, List.set_cons_zero, List.set_cons_succ])
            refine mix4_done ?_
            clear HA4 HD4 HQ4
            go_wp2_with fail
            go_meet
            case rel => exact ⟨q8, rfl, rfl, Lib.hid ⟨HQ5.out, HQG.out, HD5.out, HA5.out⟩⟩
          · refine mix4_step (o := ⟨_, _, _, _, _, _⟩) rfl (fun K hK => ?_)
            go_simp
            obtain ⟨W2, hW2⟩ : ∃ u, u = (w.alloc (.cells #[.int .u64 0, .int .i64 0, .int .i64 0, .int .i64 0, .int .i64 0, .int .i64 0] 85)).drew := ⟨_, rfl⟩
            obtain ⟨q8, hq8⟩ : ∃ u, u = w.heap.size := ⟨_, rfl⟩
            have HQ2 : Hid (Blk W2 q8 85 #[.int .u64 0, .int .i64 0, .int .i64 0, .int .i64 0, .int .i64 0, .int .i64 0]) := Lib.hid (by rw [hW2, hq8]; exact (Blk.new _ _ _).drewN 1)
            have hb2 : Below w.heap.size w W2 := by rw [hW2]; exact ((Below.refl _ _).alloc (Nat.le_refl _) _).drew
            have HQG : Hid (w.heap.size ≤ q8) := Lib.hid (by rw [hq8]; exact Nat.le_refl _)
            have HQY : Hid (y ≠ q8 ∧ v.ownBlock ≠ some q8) := Lib.hid ⟨by have := HD.out.blk.lt; omega, fun e => by have := HD.out.row.lt q8 e; omega⟩
            have HA2 : Hid (Apt (fun t => t = y) w W2) := Lib.hid (Apt.of_below hb2)
            have HD2 := Lib.hid (HD.out.below hb2)
            try rw [← hW2]
            try rw [← hq8]
            refine hK.out _ _ HA2.out ?_
            clear hK K hW2 hq8 hb2
            try simp only [Act.put, List.setIfInBounds_toArray, List.set_cons_zero, List.set_cons_succ]
            refine mix4_step (o := ⟨_, _, _, _, _, _⟩) rfl (fun K hK => ?_)
            go_simp
            refine (HDM.out id _ (HD2.out) HID.out).mono ?_
            rintro e W4 ⟨rfl, hD', hA'⟩
            rw [HOF.out]
            simp only [meV]
            have HA4 : Hid (Apt (fun t => t = y) w W4) := Lib.hid (HA2.out.trans hA')
            have HD4 : Hid (DS W4 base y v (callS m)) := Lib.hid hD'
            refine hK.out _ _ HA4.out ?_
            have HQ4 : Hid (Blk W4 q8 85 #[.int .u64 0, .int .i64 0, .int .i64 0, .int .i64 0, .int .i64 0, .int .i64 0]) := Lib.hid ((hA'.block q8 HQ2.out.lt fun e => HQY.out.1 e.symm).trans HQ2.out)
            clear hK K hD' hA' HA2 HD2 HQ2
            try simp only [Act.put, List.setIfInBounds_toArray, List.set_cons_zero, List.set_cons_succ]
            repeat
              (refine mix4_read (o := ⟨_, _, _, _, _, _⟩) (v := ?_) rfl (by rfl) (fun w' hU => ?_) ?_
               rotate_left
               go_simp
               with_reducible rfl
               try simp only [Act.put, List.setIfInBounds_toArray, List.set_cons_zero, List.set_cons_succ])
            refine mix4_step (o := ⟨_, _, _, _, _, _⟩) rfl (fun K hK => ?_)
            have hfz := fun i => HQ4.out.frozen i
            have z0 := HQ4.out.cell 0
            have z1 := HQ4.out.cell 1
            have z2 := HQ4.out.cell 2
            have z3 := HQ4.out.cell 3
            have z4 := HQ4.out.cell 4
            have z5 := HQ4.out.cell 5
            simp at z0 z1 z2 z3 z4 z5
            go_simp
            have hm5 := setall6 q8 HQ4.out (.int .u64 x0) (.int .i64 x1) (.int .i64 x2) (.int .i64 x3) (.int .i64 x4) (.int .i64 x5)
            have hg5 := gset6 W4 q8 (.int .u64 x0) (.int .i64 x1) (.int .i64 x2) (.int .i64 x3) (.int .i64 x4) (.int .i64 x5)
            have HQ5 := Lib.hid hm5
            have HA5 : Hid (Apt (fun t => t = y) w ((((((W4.setCell ⟨q8, 0, none⟩ (.int .u64 x0)).setCell ⟨q8, 1, none⟩ (.int .i64 x1)).setCell ⟨q8, 2, none⟩ (.int .i64 x2)).setCell ⟨q8, 3, none⟩ (.int .i64 x3)).setCell ⟨q8, 4, none⟩ (.int .i64 x4)).setCell ⟨q8, 5, none⟩ (.int .i64 x5))) := Lib.hid (apt_new HA4.out hg5 HQG.out)
            have HD5 : Hid (DS ((((((W4.setCell ⟨q8, 0, none⟩ (.int .u64 x0)).setCell ⟨q8, 1, none⟩ (.int .i64 x1)).setCell ⟨q8, 2, none⟩ (.int .i64 x2)).setCell ⟨q8, 3, none⟩ (.int .i64 x3)).setCell ⟨q8, 4, none⟩ (.int .i64 x4)).setCell ⟨q8, 5, none⟩ (.int .i64 x5)) base y v (callS m)) := Lib.hid (DS_new HD4.out hg5 HQY.out.1 HQY.out.2)
            refine hK.out _ _ HA5.out ?_
            clear hK K hm5 hg5 hfz z0 z1 z2 z3 z4 z5
            try simp only [Act.put, List.setIfInBounds_toArray, List.set_cons_zero, List.set_cons_succ]
            repeat
              (refine mix4_read (o := ⟨_, _, _, _, _, _⟩) (v := ?_) rfl (by rfl) (fun w' hU => ?_) ?_
               rotate_left
               go_simp
               with_reducible rfl
               try simp only [Act.put, List.setIfInBounds_toArray, List.set_cons_zero, List.set_cons_succ])
            refine mix4_done ?_
            clear HA4 HD4 HQ4
            go_wp2_with fail
            go_meet
            case rel => exact ⟨q8, rfl, rfl, Lib.hid ⟨HQ5.out, HQG.out, HD5.out, HA5.out⟩⟩
        case rest =>
          obtain ⟨q8, rfl, rfl, HC8⟩ := hcut
          have HT8 := Lib.hid HC8.out.1
          have HSZ : Hid (w.heap.size ≤ wc.heap.size) := Lib.hid HC8.out.2.2.2.size
          have HD8 := Lib.hid HC8.out.2.2.1
          have HA8 : Hid (Apt (fun t => t = y ∨ t = z) w wc) := Lib.hid (HC8.out.2.2.2.mono fun t _ ht => .inl ht)
          have HB8 : Hid (Blk wc z 41 #[.pointer (some ⟨y, 0, none⟩), .slice Arl rl.length crl, .slice Ark rk.length crk, .int .i64 (runs : Int), .bool true, .slice (some ⟨gq, oq, none⟩) (r.length + 1) clv, .slice Amk mr.length cmk, .slice Agl gl.length cgl, .slice Agk gk.length cgk]) := Lib.hid ((HC8.out.2.2.2.block z HZW.out HZY.out.1).trans HB.out)
          have HS11 : Hid (∀ u, Below wc.heap.size wc u → u.cell? ⟨z, 7, none⟩ = some (.slice Agl gl.length cgl) ∧ u.cell? ⟨q8, 0, none⟩ = some (.int .u64 x0) ∧ u.cell? ⟨q8, 1, none⟩ = some (.int .i64 x1) ∧ u.cell? ⟨q8, 2, none⟩ = some (.int .i64 x2) ∧ u.cell? ⟨q8, 3, none⟩ = some (.int .i64 x3) ∧ u.cell? ⟨q8, 4, none⟩ = some (.int .i64 x4) ∧ u.cell? ⟨q8, 5, none⟩ = some (.int .i64 x5)) := Lib.hid fun u hu => by
            have h0 := (HB8.out.below hu HB8.out.lt).cell 7
            have c := (HT8.out.below hu HT8.out.lt).cell
            simp at h0
            exact ⟨h0, c 0, c 1, c 2, c 3, c 4, c 5⟩
          have HV : Hid (∀ u, Below wc.heap.size wc u → Lv 6 u (.slice Agl gl.length cgl) (gl.map meRw)) := Lib.hid fun u hu => ((HGB.out wc HA8.out).below hu).here.gl.lv
          have hgl : gl.length ≤ 2000 := by have h := HQ.out.few; simp only at h; omega
          clear HC8 k0 k4 k5
          go_upto_region 11 with fail
          go_cut [] (fun wd => ∃ (A3 : Option Addr) (c3 : Nat), Hid (Blk wd z 41 #[.pointer (some ⟨y, 0, none⟩), .slice Arl rl.length crl, .slice Ark rk.length crk, .int .i64 (runs : Int), .bool true, .slice (some ⟨gq, oq, none⟩) (r.length + 1) clv, .slice Amk mr.length cmk, .slice A3 (gl.length + 1) c3, .slice Agk gk.length cgk] ∧ DS wd base y v (callS m) ∧ Apt (fun t => t = y ∨ t = z) w wd ∧ OwnL 6 wd w.heap.size 85 (.slice A3 (gl.length + 1) c3) ((gl ++ [(⟨x0, x1, x2, x3, x4, x5⟩ : Me)]).map meRw)))
          case first =>
            refine wp_region_mix5 14 (.read 0 (.read 2 (.read 3 (.read 4 (.read 5 (.read 6 (.read 8 (.both 1 (.both 7 (.step 9 (.step 10 (.free 11 (.free 12 (.free 13 (.store 14 .done)))))) 9 (.step 7 (.step 10 (.free 11 (.free 12 (.free 13 (.store 14 .done))))))) 9 (.step 1 (.step 7 (.step 10 (.free 11 (.free 12 (.free 13 (.store 14 .done)))))))))))))) ) (fun u => Below wc.heap.size wc u) (by kernel_rfl) (by kernel_rfl) (by decide +kernel) rfl (Below.refl _ _).drew ?_
            repeat
              (refine mix5_read (o := ⟨_, _, _, _, _, _⟩) (v := ?_) rfl (by rfl) (fun w' hU => ?_) ?_
               rotate_left
               obtain ⟨i0, i1, i2, i3, i4, i5, i6⟩ := HS11.out _ hU
               go_simp
               with_reducible rfl
               try simp only [Act.put, List.setIfInBounds_toArray, List.set_cons_zero, List.set_cons_succ])
            refine mix5_both ?_ ?_
            · refine mix5_step (o := ⟨_, _, _, _, _, _⟩) rfl (fun K hK => ?_)
              go_simp
              have hbA : Below wc.heap.size wc (wc.drew.alloc (.cells #[] 85)) := (Below.refl _ _).drew.alloc (Nat.le_refl _) _
              refine hK.out _ _ hbA ?_
              clear hK K
              try simp only [Act.put, List.setIfInBounds_toArray, List.set_cons_zero, List.set_cons_succ]
              refine mix5_both ?_ ?_
              · refine mix5_step (o := ⟨_, _, _, _, _, _⟩) rfl (fun K hK => ?_)
                refine step_append_elems metaT rfl _ _ rfl rfl (ownL_none18 wc.drew 6 wc.heap.size 85 (Nat.le_refl _)) rfl (HV.out _ hbA) (by intro yy hyy; obtain ⟨zz, _, rfl⟩ := List.mem_map.1 hyy; simp [meRw, Value.oneCell']) (by simp only [maxLen, List.length_nil, List.length_map]; omega) (by simp only [List.length_nil, List.length_map]; omega) hbA.size ?_
                intro v2 W2 hoW2 hgW2 hvW2
                have hbW2 : Below wc.heap.size wc W2 := hbA.grown hgW2 hbA.size (fun t ht => by injection ht with ht; exact Nat.le_of_eq ht)
                refine hK.out _ _ hbW2 ?_
                clear hK K
                try simp only [Act.put, List.setIfInBounds_toArray, List.set_cons_zero, List.set_cons_succ]
                refine mix5_step (o := ⟨_, _, _, _, _, _⟩) rfl (fun K hK => ?_)
                go_simp
                have hbB : Below wc.heap.size wc (W2.alloc (.cells #[.int .u64 x0, .int .i64 x1, .int .i64 x2, .int .i64 x3, .int .i64 x4, .int .i64 x5] 85)) := hbW2.alloc hbW2.size _
                refine hK.out _ _ hbB ?_
                clear hK K
                try simp only [Act.put, List.setIfInBounds_toArray, List.set_cons_zero, List.set_cons_succ]
                refine mix5_step (o := ⟨_, _, _, _, _, _⟩) rfl (fun K hK => ?_)
                refine step_append_elems metaT rfl _ _ rfl rfl (hoW2.alloc _) rfl (Lv.lit1 (w := W2) [.int .u64 x0, .int .i64 x1, .int .i64 x2, .int .i64 x3, .int .i64 x4, .int .i64 x5] 85) (by intro yy hyy; rw [List.mem_singleton] at hyy; subst hyy; simp [Value.oneCell']) (by simp only [maxLen, List.nil_append, List.length_map, List.length_singleton]; omega) (by simp only [List.nil_append, List.length_map, List.length_singleton]; omega) hbB.size ?_
                intro v3 W3 hoW3 hgW3 hvW3
                have hbW3 : Below wc.heap.size wc W3 := hbB.grown hgW3 hbB.size (fun t ht => hoW2.ge t ht)
                refine hK.out _ _ hbW3 ?_
                clear hK K
                try simp only [Act.put, List.setIfInBounds_toArray, List.set_cons_zero, List.set_cons_succ]
                repeat
                  (refine mix5_free (o := ⟨_, _, _, _, _, _⟩) (v := ?_) rfl (by rfl) (fun w' => ?_) ?_
                   rotate_left
                   go_simp
                   with_reducible rfl
                   try simp only [Act.put, List.setIfInBounds_toArray, List.set_cons_zero, List.set_cons_succ])
                obtain ⟨A3, c3, hv3, _, _⟩ := hoW3.lv.form
                have hlen3 : (([] ++ List.map meRw gl) ++ [([.int .u64 x0, .int .i64 x1, .int .i64 x2, .int .i64 x3, .int .i64 x4, .int .i64 x5] : List Value)]).length = gl.length + 1 := by simp
                rw [hlen3] at hv3
                subst hv3
                have hB3 := HB8.out.below hbW3 HB8.out.lt
                have hfz := hB3.frozen 7
                have k7 := hB3.cell 7
                simp at k7
                refine mix5_store (o := ⟨_, _, _, _, _, _⟩) rfl (fun K hK => ?_)
                go_simp
                refine hK.out _ _ ?_
                clear hK K
                try simp only [Act.put, List.setIfInBounds_toArray, List.set_cons_zero, List.set_cons_succ]
                refine mix5_done ?_
                go_wp2_with fail
                go_meet
                case rel =>
                  have hbn := hB3.set_ 7 (.slice A3 (gl.length + 1) c3)
                  refine ⟨A3, c3, Lib.hid ⟨(by simpa using hbn), HDS.out _ _ _ (HD8.out.below hbW3), HSET.out _ _ _ _ (HA8.out.trans (Apt.of_below hbW3)), ?_⟩⟩
                  have h1 := (hoW3.lower HSZ.out).kept (grown_set W3 z 7 (.slice A3 (gl.length + 1) c3)) (.inr ((hoW3.lower HSZ.out).ne_ HZW.out))
                  simpa [meRw] using h1
              · refine mix5_step (o := ⟨_, _, _, _, _, _⟩) rfl (fun K hK => ?_)
                go_simp
                have hbB : Below wc.heap.size wc ((wc.drew.alloc (.cells #[] 85)).alloc (.cells #[.int .u64 x0, .int .i64 x1, .int .i64 x2, .int .i64 x3, .int .i64 x4, .int .i64 x5] 85)) := hbA.alloc hbA.size _
                refine hK.out _ _ hbB ?_
                clear hK K
                try simp only [Act.put, List.setIfInBounds_toArray, List.set_cons_zero, List.set_cons_succ]
                refine mix5_step (o := ⟨_, _, _, _, _, _⟩) rfl (fun K hK => ?_)
                refine step_append_elems metaT rfl _ _ rfl rfl ((ownL_none18 wc.drew 6 wc.heap.size 85 (Nat.le_refl _)).alloc _) rfl (HV.out _ hbB) (by intro yy hyy; obtain ⟨zz, _, rfl⟩ := List.mem_map.1 hyy; simp [meRw, Value.oneCell']) (by simp only [maxLen, List.length_nil, List.length_map]; omega) (by simp only [List.length_nil, List.length_map]; omega) hbB.size ?_
                intro v2 W2 hoW2 hgW2 hvW2
                have hbW2 : Below wc.heap.size wc W2 := hbB.grown hgW2 hbB.size (fun t ht => by injection ht with ht; exact Nat.le_of_eq ht)
                have hgW2' : ((wc.drew.alloc (.cells #[] 85)).alloc (.cells #[.int .u64 x0, .int .i64 x1, .int .i64 x2, .int .i64 x3, .int .i64 x4, .int .i64 x5] 85)).grownBy W2 (some wc.heap.size) := hgW2
                have hlit : Lv 6 W2 (.slice (some ⟨(wc.drew.alloc (.cells #[] 85)).heap.size, 0, none⟩) 1 1) [[.int .u64 x0, .int .i64 x1, .int .i64 x2, .int .i64 x3, .int .i64 x4, .int .i64 x5]] := (Lv.lit1 (w := wc.drew.alloc (.cells #[] 85)) [.int .u64 x0, .int .i64 x1, .int .i64 x2, .int .i64 x3, .int .i64 x4, .int .i64 x5] 85).grown hgW2' (fun _ e => by
                  rw [World.size_alloc] at e
                  have e2 : wc.heap.size + 1 = wc.heap.size := Option.some.inj e
                  omega)
                simp only [World.size_alloc] at hlit
                refine hK.out _ _ hbW2 ?_
                clear hK K
                try simp only [Act.put, List.setIfInBounds_toArray, List.set_cons_zero, List.set_cons_succ]
                refine mix5_step (o := ⟨_, _, _, _, _, _⟩) rfl (fun K hK => ?_)
                refine step_append_elems metaT rfl _ _ rfl rfl (hoW2) rfl (hlit) (by intro yy hyy; rw [List.mem_singleton] at hyy; subst hyy; simp [Value.oneCell']) (by simp only [maxLen, List.nil_append, List.length_map, List.length_singleton]; omega) (by simp only [List.nil_append, List.length_map, List.length_singleton]; omega) hbW2.size ?_
                intro v3 W3 hoW3 hgW3 hvW3
                have hbW3 : Below wc.heap.size wc W3 := hbW2.grown hgW3 hbW2.size (fun t ht => hoW2.ge t ht)
                refine hK.out _ _ hbW3 ?_
                clear hK K
                try simp only [Act.put, List.setIfInBounds_toArray, List.set_cons_zero, List.set_cons_succ]
                repeat
                  (refine mix5_free (o := ⟨_, _, _, _, _, _⟩) (v := ?_) rfl (by rfl) (fun w' => ?_) ?_
                   rotate_left
                   go_simp
                   with_reducible rfl
                   try simp only [Act.put, List.setIfInBounds_toArray, List.set_cons_zero, List.set_cons_succ])
                obtain ⟨A3, c3, hv3, _, _⟩ := hoW3.lv.form
                have hlen3 : (([] ++ List.map meRw gl) ++ [([.int .u64 x0, .int .i64 x1, .int .i64 x2, .int .i64 x3, .int .i64 x4, .int .i64 x5] : List Value)]).length = gl.length + 1 := by simp
                rw [hlen3] at hv3
                subst hv3
                have hB3 := HB8.out.below hbW3 HB8.out.lt
                have hfz := hB3.frozen 7
                have k7 := hB3.cell 7
                simp at k7
                refine mix5_store (o := ⟨_, _, _, _, _, _⟩) rfl (fun K hK => ?_)
                go_simp
                refine hK.out _ _ ?_
                clear hK K
                try simp only [Act.put, List.setIfInBounds_toArray, List.set_cons_zero, List.set_cons_succ]
                refine mix5_done ?_
                go_wp2_with fail
                go_meet
                case rel =>
                  have hbn := hB3.set_ 7 (.slice A3 (gl.length + 1) c3)
                  refine ⟨A3, c3, Lib.hid ⟨(by simpa using hbn), HDS.out _ _ _ (HD8.out.below hbW3), HSET.out _ _ _ _ (HA8.out.trans (Apt.of_below hbW3)), ?_⟩⟩
                  have h1 := (hoW3.lower HSZ.out).kept (grown_set W3 z 7 (.slice A3 (gl.length + 1) c3)) (.inr ((hoW3.lower HSZ.out).ne_ HZW.out))
                  simpa [meRw] using h1
            · refine mix5_step (o := ⟨_, _, _, _, _, _⟩) rfl (fun K hK => ?_)
              go_simp
              have hbB : Below wc.heap.size wc (wc.drew.alloc (.cells #[.int .u64 x0, .int .i64 x1, .int .i64 x2, .int .i64 x3, .int .i64 x4, .int .i64 x5] 85)) := (Below.refl _ _).drew.alloc (Nat.le_refl _) _
              refine hK.out _ _ hbB ?_
              clear hK K
              try simp only [Act.put, List.setIfInBounds_toArray, List.set_cons_zero, List.set_cons_succ]
              refine mix5_step (o := ⟨_, _, _, _, _, _⟩) rfl (fun K hK => ?_)
              go_simp
              have hbA : Below wc.heap.size wc ((wc.drew.alloc (.cells #[.int .u64 x0, .int .i64 x1, .int .i64 x2, .int .i64 x3, .int .i64 x4, .int .i64 x5] 85)).alloc (.cells #[] 85)) := hbB.alloc hbB.size _
              have hown0 := ownL_none18 (wc.drew.alloc (.cells #[.int .u64 x0, .int .i64 x1, .int .i64 x2, .int .i64 x3, .int .i64 x4, .int .i64 x5] 85)) 6 wc.heap.size 85 hbB.size
              simp only [World.size_alloc] at hown0
              refine hK.out _ _ hbA ?_
              clear hK K
              try simp only [Act.put, List.setIfInBounds_toArray, List.set_cons_zero, List.set_cons_succ]
              refine mix5_step (o := ⟨_, _, _, _, _, _⟩) rfl (fun K hK => ?_)
              refine step_append_elems metaT rfl _ _ rfl rfl (hown0) rfl (HV.out _ hbA) (by intro yy hyy; obtain ⟨zz, _, rfl⟩ := List.mem_map.1 hyy; simp [meRw, Value.oneCell']) (by simp only [maxLen, List.length_nil, List.length_map]; omega) (by simp only [List.length_nil, List.length_map]; omega) hbA.size ?_
              intro v2 W2 hoW2 hgW2 hvW2
              have hgW2' : ((wc.drew.alloc (.cells #[.int .u64 x0, .int .i64 x1, .int .i64 x2, .int .i64 x3, .int .i64 x4, .int .i64 x5] 85)).alloc (.cells #[] 85)).grownBy W2 (some (wc.heap.size + 1)) := hgW2
              have hbW2 : Below wc.heap.size wc W2 := hbA.grown hgW2' hbA.size (fun t ht => by have := Option.some.inj ht; omega)
              have hlit : Lv 6 W2 (.slice (some ⟨wc.drew.heap.size, 0, none⟩) 1 1) [[.int .u64 x0, .int .i64 x1, .int .i64 x2, .int .i64 x3, .int .i64 x4, .int .i64 x5]] := ((Lv.lit1 (w := wc.drew) [.int .u64 x0, .int .i64 x1, .int .i64 x2, .int .i64 x3, .int .i64 x4, .int .i64 x5] 85).alloc _).grown hgW2' (fun _ e => by
                have e2 : wc.heap.size = wc.heap.size + 1 := Option.some.inj e
                omega)
              refine hK.out _ _ hbW2 ?_
              clear hK K
              try simp only [Act.put, List.setIfInBounds_toArray, List.set_cons_zero, List.set_cons_succ]
              refine mix5_step (o := ⟨_, _, _, _, _, _⟩) rfl (fun K hK => ?_)
              refine step_append_elems metaT rfl _ _ rfl rfl (hoW2) rfl (hlit) (by intro yy hyy; rw [List.mem_singleton] at hyy; subst hyy; simp [Value.oneCell']) (by simp only [maxLen, List.nil_append, List.length_map, List.length_singleton]; omega) (by simp only [List.nil_append, List.length_map, List.length_singleton]; omega) hbW2.size ?_
              intro v3 W3 hoW3 hgW3 hvW3
              have hbW3 : Below wc.heap.size wc W3 := hbW2.grown hgW3 hbW2.size (fun t ht => hoW2.ge t ht)
              refine hK.out _ _ hbW3 ?_
              clear hK K
              try simp only [Act.put, List.setIfInBounds_toArray, List.set_cons_zero, List.set_cons_succ]
              repeat
                (refine mix5_free (o := ⟨_, _, _, _, _, _⟩) (v := ?_) rfl (by rfl) (fun w' => ?_) ?_
                 rotate_left
                 go_simp
                 with_reducible rfl
                 try simp only [Act.put, List.setIfInBounds_toArray, List.set_cons_zero, List.set_cons_succ])
              obtain ⟨A3, c3, hv3, _, _⟩ := hoW3.lv.form
              have hlen3 : (([] ++ List.map meRw gl) ++ [([.int .u64 x0, .int .i64 x1, .int .i64 x2, .int .i64 x3, .int .i64 x4, .int .i64 x5] : List Value)]).length = gl.length + 1 := by simp
              rw [hlen3] at hv3
              subst hv3
              have hB3 := HB8.out.below hbW3 HB8.out.lt
              have hfz := hB3.frozen 7
              have k7 := hB3.cell 7
              simp at k7
              refine mix5_store (o := ⟨_, _, _, _, _, _⟩) rfl (fun K hK => ?_)
              go_simp
              refine hK.out _ _ ?_
              clear hK K
              try simp only [Act.put, List.setIfInBounds_toArray, List.set_cons_zero, List.set_cons_succ]
              refine mix5_done ?_
              go_wp2_with fail
              go_meet
              case rel =>
                have hbn := hB3.set_ 7 (.slice A3 (gl.length + 1) c3)
                refine ⟨A3, c3, Lib.hid ⟨(by simpa using hbn), HDS.out _ _ _ (HD8.out.below hbW3), HSET.out _ _ _ _ (HA8.out.trans (Apt.of_below hbW3)), ?_⟩⟩
                have h1 := (hoW3.lower HSZ.out).kept (grown_set W3 z 7 (.slice A3 (gl.length + 1) c3)) (.inr ((hoW3.lower HSZ.out).ne_ HZW.out))
                simpa [meRw] using h1
          case rest =>
            obtain ⟨A3, c3, HC9⟩ := hcut
            have HB9 := Lib.hid HC9.out.1
            have HD9 := Lib.hid HC9.out.2.1
            have HA9 := Lib.hid HC9.out.2.2.1
            have HO9 := Lib.hid HC9.out.2.2.2
            obtain ⟨A5, hA5⟩ : ∃ A5, A5 = (if clv = 1 then some (⟨gq, oq, none⟩ : Addr) else (some (⟨gq, oq, none⟩ : Addr)).map (·.add 1)) := ⟨_, rfl⟩
            obtain ⟨c5, hc5⟩ : ∃ c5, c5 = clv - 1 := ⟨_, rfl⟩
            have hsl : ∀ u, (Instr.slice 39 (.slice (some ⟨gq, oq, none⟩) (r.length + 1) clv) (some (.int .i64 1)) none none).run Tryz.prog u = .ok (.slice A5 r.length c5) u := fun u => by
              have := run_slice_from (P := Tryz.prog) (A := some ⟨gq, oq, none⟩) (n := r.length + 1) (c := clv) uT rfl 1 (by omega) HCAP.out u
              rw [hA5, hc5]
              simpa using this
            have HLV : Hid (∀ u, Us u (.slice (some ⟨gq, oq, none⟩) (r.length + 1) clv) (id :: r) → Us u (.slice A5 r.length c5) r) := Lib.hid fun u hu => by
              have := Us.rest hu
              rw [hA5, hc5]
              simpa using this
            have kl := HB9.out.cell 5
            have fl := HB9.out.frozen 5
            simp at kl
            clear HC9 hA5 hc5 HT8 HD8 HA8 HB8 HS11 HV hgl
            go_wp2_with fail
            go_meet
            case rel =>
              have hb := HB9.out.set_ 5 (.slice A5 r.length c5)
              have ha := HSET.out _ w 5 (.slice A5 r.length c5) HA9.out
              refine ⟨mc, _, rfl, Lib.hid ⟨HPG.out, rfl, HDS.out _ _ _ HD9.out, ⟨_, _, _, _, _, _, (by simpa using hb), fun u hu => ?_⟩, ha⟩⟩
              have h := HGB.out _ ha u hu
              have ho := (HO9.out.kept (grown_set _ z 5 (.slice A5 r.length c5)) (.inr (HO9.out.ne_ HZW.out))).apt hu fun t ht hb => by
                have := HO9.out.ge t ht
                have := HLT.out t hb
                omega
              have hok : ∀ a ∈ gl ++ [(⟨x0, x1, x2, x3, x4, x5⟩ : Me)], a.ok := fun a ha => by
                rcases List.mem_append.1 ha with h1 | h1
                · exact Mes.ok h.gl a h1
                · rw [List.mem_singleton] at h1
                  rw [h1]
                  exact HMO.out
              have hnew := Mes.of_lv ho.lv hok
              exact ⟨h.rl, h.rk, HLV.out _ h.lv, h.km, (by simpa using hnew), h.gk⟩
      | nil =>
        cases mr with
        | nil => exact absurd (HQ.out.some_ rfl) (by simp)
        | cons id r =>
          have HPG := Lib.hid (plGo_mk (m := m) (id := id) (r := r) (gl := gl) (gk := gk) (rl := rl) (rk := rk) (n := runs))
          have HID : Hid (id < 18446744073709551616) := Lib.hid (HQ.out.mr id (List.mem_cons_self ..))
          simp only [List.length_cons, List.length_nil] at HB HK HGB k4
          have HCAP : Hid (r.length + 1 ≤ cmk) := Lib.hid (by
            obtain ⟨A9, c9, e, h1, _⟩ := HK.out.here.km.form
            have e3 : cmk = c9 := by
              injection e
            rw [e3]
            simpa using h1)
          obtain ⟨gq, oq, hA0, hgq, xc0⟩ := Us.cell HK.out.here.km (k := 0) (x := id) rfl
          subst hA0
          have HX0 : Hid (∀ u, Apt (fun t => t = y ∨ t = z) w u → u.cell? ⟨gq, oq, none⟩ = some (.int .u64 (id : Int))) := Lib.hid fun u hu => by
            obtain ⟨g', o', e, _, x⟩ := Us.cell (HGB.out u hu).here.km (k := 0) (x := id) rfl
            injection e with e
            injection e with e1 e2
            subst e1 e2
            simpa using x
          have HS : Hid (∀ u, Apt (fun t => t = y) w u → u.cell? ⟨z, 0, none⟩ = some (.pointer (some ⟨y, 0, none⟩)) ∧ u.cell? ⟨z, 6, none⟩ = some (.slice (some ⟨gq, oq, none⟩) (r.length + 1) cmk) ∧ u.cell? ⟨gq, oq, none⟩ = some (.int .u64 (id : Int))) := Lib.hid fun u hu => by
            have hb := ((hu.block z HZW.out HZY.out.1).trans HB.out : Blk u z 41 _)
            have h0 := Blk.cell hb 0
            have h5 := Blk.cell hb 6
            simp at h0 h5
            exact ⟨h0, h5, HX0.out u (hu.mono fun t _ ht => .inl ht)⟩
          have HMO : Hid (mrR m id).2.ok := Lib.hid (mrR_ok m id)
          obtain ⟨mc, hmc⟩ : ∃ u, u = (mrR m id).1 := ⟨_, rfl⟩
          obtain ⟨mm, hmm⟩ : ∃ u, u = (mrR m id).2 := ⟨_, rfl⟩
          rw [← hmm] at HMO HPG
          rw [← hmc] at HPG
          have HOF : Hid (mrR m id = (mc, mm)) := Lib.hid (by rw [hmc, hmm])
          obtain ⟨x0, x1, x2⟩ := mm
          have k5 := (Blk.cell HB.out 6)
          have kz := (Blk.cell HB.out 5)
          simp at k5 kz
          have h0r : decide ((0 : Int) < (r.length : Int) + 1) = true := decide_eq_true (by omega)
          clear hmc hmm hdn xc0 hgq
          go_upto_region 14 with fail
          go_cut [10, 11] (fun pv cv wc => ∃ q8 : Nat, pv = .pointer (some ⟨q8, 0, none⟩) ∧ cv = .int .i64 mc ∧ Hid (Blk wc q8 89 #[.int .u64 x0, .int .i64 x1, .int .u64 x2] ∧ w.heap.size ≤ q8 ∧ DS wc base y v (callS m) ∧ Apt (fun t => t = y) w wc))
          case first =>
            refine wp_region_mix4 (.read 0 (.read 1 (.read 2 (.read 3 (.read 4 (.read 5 (.read 6 (.read 7 (.read 8 (.read 9 (.both 10 (.read 11 (.read 12 (.read 13 (.step 14 (.step 15 (.read 16 .done)))))) 14 (.step 10 (.read 11 (.read 12 (.read 13 (.step 15 (.read 16 .done))))))))))))))))) (fun u => Apt (fun t => t = y) w u) (by kernel_rfl) (by kernel_rfl) (by decide +kernel) rfl (Apt.of_below (Below.refl _ _).drew) ?_
            repeat
              (refine mix4_read (o := ⟨_, _, _, _, _, _⟩) (v := ?_) rfl (by rfl) (fun w' hU => ?_) ?_
               rotate_left
               obtain ⟨j0, j1, j2⟩ := HS.out _ hU
               go_simp
               with_reducible rfl
               try simp only [Act.put, List.setIfInBounds_toArray, List.set_cons_zero, List.set_cons_succ])
            refine mix4_both ?_ ?_
            · refine mix4_step (o := ⟨_, _, _, _, _, _⟩) rfl (fun K hK => ?_)
              go_simp
              refine (HDK.out id _ (HD.out.below (Below.refl _ _).drew) HID.out).mono ?_
              rintro e W2 ⟨rfl, hD', hA'⟩
              rw [HOF.out]
              simp only [mkV]
              have HA2 : Hid (Apt (fun t => t = y) w W2) := Lib.hid ((Apt.of_below (Below.refl _ _).drew).trans hA')
              have HD2 : Hid (DS W2 base y v (callS m)) := Lib.hid hD'
              refine hK.out _ _ HA2.out ?_
              clear hK K hD' hA'
              try simp only [Act.put, List.setIfInBounds_toArray, List.set_cons_zero, List.set_cons_succ]
              repeat
                (refine mix4_read (o := ⟨_, _, _, _, _, _⟩) (v := ?_) rfl (by rfl) (fun w' hU => ?_) ?_
                 rotate_left
                 go_simp
                 with_reducible rfl
                 try simp only [Act.put, List.setIfInBounds_toArray, List.set_cons_zero, List.set_cons_succ])
              refine mix4_step (o := ⟨_, _, _, _, _, _⟩) rfl (fun K hK => ?_)
              go_simp
              obtain ⟨W4, hW4⟩ : ∃ u, u = W2.alloc (.cells #[.int .u64 0, .int .i64 0, .int .u64 0] 89) := ⟨_, rfl⟩
              obtain ⟨q8, hq8⟩ : ∃ u, u = W2.heap.size := ⟨_, rfl⟩
              have HQ4 : Hid (Blk W4 q8 89 #[.int .u64 0, .int .i64 0, .int .u64 0]) := Lib.hid (by rw [hW4, hq8]; exact Blk.new _ _ _)
              have hb4 : Below W2.heap.size W2 W4 := by rw [hW4]; exact (Below.refl _ _).alloc (Nat.le_refl _) _
              have HQG : Hid (w.heap.size ≤ q8) := Lib.hid (by rw [hq8]; exact HA2.out.size)
              have HQY : Hid (y ≠ q8 ∧ v.ownBlock ≠ some q8) := Lib.hid ⟨by have := HD2.out.blk.lt; omega, fun e => by have := HD2.out.row.lt q8 e; omega⟩
              have HA4 : Hid (Apt (fun t => t = y) w W4) := Lib.hid (HA2.out.trans (Apt.of_below hb4))
              have HD4 := Lib.hid (HD2.out.below hb4)
              try rw [← hW4]
              try rw [← hq8]
              refine hK.out _ _ HA4.out ?_
              clear hK K hW4 hq8 hb4 HA2 HD2
              try simp only [Act.put, List.setIfInBounds_toArray, List.set_cons_zero, List.set_cons_succ]
              refine mix4_step (o := ⟨_, _, _, _, _, _⟩) rfl (fun K hK => ?_)
              have hfz := fun i => HQ4.out.frozen i
              have z0 := HQ4.out.cell 0
              have z1 := HQ4.out.cell 1
              have z2 := HQ4.out.cell 2
              simp at z0 z1 z2
              go_simp
              have hm5 := setall3 q8 HQ4.out (.int .u64 x0) (.int .i64 x1) (.int .u64 x2)
              have hg5 := gset3 W4 q8 (.int .u64 x0) (.int .i64 x1) (.int .u64 x2)
              have HQ5 := Lib.hid hm5
              have HA5 : Hid (Apt (fun t => t = y) w (((W4.setCell ⟨q8, 0, none⟩ (.int .u64 x0)).setCell ⟨q8, 1, none⟩ (.int .i64 x1)).setCell ⟨q8, 2, none⟩ (.int .u64 x2))) := Lib.hid (apt_new HA4.out hg5 HQG.out)
              have HD5 : Hid (DS (((W4.setCell ⟨q8, 0, none⟩ (.int .u64 x0)).setCell ⟨q8, 1, none⟩ (.int .i64 x1)).setCell ⟨q8, 2, none⟩ (.int .u64 x2)) base y v (callS m)) := Lib.hid (DS_new HD4.out hg5 HQY.out.1 HQY.out.2)
              refine hK.out _ _ HA5.out ?_
              clear hK K hm5 hg5 hfz z0 z1 z2
              try simp only [Act.put, List.setIfInBounds_toArray, List.set_cons_zero, List.set_cons_succ]
              repeat
                (refine mix4_read (o := ⟨_, _, _, _, _, _⟩) (v := ?_) rfl (by rfl) (fun w' hU => ?_) ?_
                 rotate_left
                 go_simp
                 with_reducible rfl
                 try simp only [Act.put, List.setIfInBounds_toArray, List.set_cons_zero, List.set_cons_succ])
              refine mix4_done ?_
              clear HA4 HD4 HQ4
              go_wp2_with fail
              go_meet
              case rel => exact ⟨q8, rfl, rfl, Lib.hid ⟨HQ5.out, HQG.out, HD5.out, HA5.out⟩⟩
            · refine mix4_step (o := ⟨_, _, _, _, _, _⟩) rfl (fun K hK => ?_)
              go_simp
              obtain ⟨W2, hW2⟩ : ∃ u, u = (w.alloc (.cells #[.int .u64 0, .int .i64 0, .int .u64 0] 89)).drew := ⟨_, rfl⟩
              obtain ⟨q8, hq8⟩ : ∃ u, u = w.heap.size := ⟨_, rfl⟩
              have HQ2 : Hid (Blk W2 q8 89 #[.int .u64 0, .int .i64 0, .int .u64 0]) := Lib.hid (by rw [hW2, hq8]; exact (Blk.new _ _ _).drewN 1)
              have hb2 : Below w.heap.size w W2 := by rw [hW2]; exact ((Below.refl _ _).alloc (Nat.le_refl _) _).drew
              have HQG : Hid (w.heap.size ≤ q8) := Lib.hid (by rw [hq8]; exact Nat.le_refl _)
              have HQY : Hid (y ≠ q8 ∧ v.ownBlock ≠ some q8) := Lib.hid ⟨by have := HD.out.blk.lt; omega, fun e => by have := HD.out.row.lt q8 e; omega⟩
              have HA2 : Hid (Apt (fun t => t = y) w W2) := Lib.hid (Apt.of_below hb2)
              have HD2 := Lib.hid (HD.out.below hb2)
              try rw [← hW2]
              try rw [← hq8]
              refine hK.out _ _ HA2.out ?_
              clear hK K hW2 hq8 hb2
              try simp only [Act.put, List.setIfInBounds_toArray, List.set_cons_zero, List.set_cons_succ]
              refine mix4_step (o := ⟨_, _, _, _, _, _⟩) rfl (fun K hK => ?_)
              go_simp
              refine (HDK.out id _ (HD2.out) HID.out).mono ?_
              rintro e W4 ⟨rfl, hD', hA'⟩
              rw [HOF.out]
              simp only [mkV]
              have HA4 : Hid (Apt (fun t => t = y) w W4) := Lib.hid (HA2.out.trans hA')
              have HD4 : Hid (DS W4 base y v (callS m)) := Lib.hid hD'
              refine hK.out _ _ HA4.out ?_
              have HQ4 : Hid (Blk W4 q8 89 #[.int .u64 0, .int .i64 0, .int .u64 0]) := Lib.hid ((hA'.block q8 HQ2.out.lt fun e => HQY.out.1 e.symm).trans HQ2.out)
              clear hK K hD' hA' HA2 HD2 HQ2
              try simp only [Act.put, List.setIfInBounds_toArray, List.set_cons_zero, List.set_cons_succ]
              repeat
                (refine mix4_read (o := ⟨_, _, _, _, _, _⟩) (v := ?_) rfl (by rfl) (fun w' hU => ?_) ?_
                 rotate_left
                 go_simp
                 with_reducible rfl
                 try simp only [Act.put, List.setIfInBounds_toArray, List.set_cons_zero, List.set_cons_succ])
              refine mix4_step (o := ⟨_, _, _, _, _, _⟩) rfl (fun K hK => ?_)
              have hfz := fun i => HQ4.out.frozen i
              have z0 := HQ4.out.cell 0
              have z1 := HQ4.out.cell 1
              have z2 := HQ4.out.cell 2
              simp at z0 z1 z2
              go_simp
              have hm5 := setall3 q8 HQ4.out (.int .u64 x0) (.int .i64 x1) (.int .u64 x2)
              have hg5 := gset3 W4 q8 (.int .u64 x0) (.int .i64 x1) (.int .u64 x2)
              have HQ5 := Lib.hid hm5
              have HA5 : Hid (Apt (fun t => t = y) w (((W4.setCell ⟨q8, 0, none⟩ (.int .u64 x0)).setCell ⟨q8, 1, none⟩ (.int .i64 x1)).setCell ⟨q8, 2, none⟩ (.int .u64 x2))) := Lib.hid (apt_new HA4.out hg5 HQG.out)
              have HD5 : Hid (DS (((W4.setCell ⟨q8, 0, none⟩ (.int .u64 x0)).setCell ⟨q8, 1, none⟩ (.int .i64 x1)).setCell ⟨q8, 2, none⟩ (.int .u64 x2)) base y v (callS m)) := Lib.hid (DS_new HD4.out hg5 HQY.out.1 HQY.out.2)
              refine hK.out _ _ HA5.out ?_
              clear hK K hm5 hg5 hfz z0 z1 z2
              try simp only [Act.put, List.setIfInBounds_toArray, List.set_cons_zero, List.set_cons_succ]
              repeat
                (refine mix4_read (o := ⟨_, _, _, _, _, _⟩) (v := ?_) rfl (by rfl) (fun w' hU => ?_) ?_
                 rotate_left
                 go_simp
                 with_reducible rfl
                 try simp only [Act.put, List.setIfInBounds_toArray, List.set_cons_zero, List.set_cons_succ])
              refine mix4_done ?_
              clear HA4 HD4 HQ4
              go_wp2_with fail
              go_meet
              case rel => exact ⟨q8, rfl, rfl, Lib.hid ⟨HQ5.out, HQG.out, HD5.out, HA5.out⟩⟩
          case rest =>
            obtain ⟨q8, rfl, rfl, HC8⟩ := hcut
            have HT8 := Lib.hid HC8.out.1
            have HSZ : Hid (w.heap.size ≤ wc.heap.size) := Lib.hid HC8.out.2.2.2.size
            have HD8 := Lib.hid HC8.out.2.2.1
            have HA8 : Hid (Apt (fun t => t = y ∨ t = z) w wc) := Lib.hid (HC8.out.2.2.2.mono fun t _ ht => .inl ht)
            have HB8 : Hid (Blk wc z 41 #[.pointer (some ⟨y, 0, none⟩), .slice Arl rl.length crl, .slice Ark rk.length crk, .int .i64 (runs : Int), .bool true, .slice Alv 0 clv, .slice (some ⟨gq, oq, none⟩) (r.length + 1) cmk, .slice Agl gl.length cgl, .slice Agk gk.length cgk]) := Lib.hid ((HC8.out.2.2.2.block z HZW.out HZY.out.1).trans HB.out)
            have HS11 : Hid (∀ u, Below wc.heap.size wc u → u.cell? ⟨z, 8, none⟩ = some (.slice Agk gk.length cgk) ∧ u.cell? ⟨q8, 0, none⟩ = some (.int .u64 x0) ∧ u.cell? ⟨q8, 1, none⟩ = some (.int .i64 x1) ∧ u.cell? ⟨q8, 2, none⟩ = some (.int .u64 x2)) := Lib.hid fun u hu => by
              have h0 := (HB8.out.below hu HB8.out.lt).cell 8
              have c := (HT8.out.below hu HT8.out.lt).cell
              simp at h0
              exact ⟨h0, c 0, c 1, c 2⟩
            have HV : Hid (∀ u, Below wc.heap.size wc u → Lv 3 u (.slice Agk gk.length cgk) (gk.map mkRw)) := Lib.hid fun u hu => ((HGB.out wc HA8.out).below hu).here.gk.lv
            have hgl : gk.length ≤ 2000 := by have h := HQ.out.few; simp only at h; omega
            clear HC8 k0 k4 k5
            go_upto_region 15 with fail
            go_cut [] (fun wd => ∃ (A3 : Option Addr) (c3 : Nat), Hid (Blk wd z 41 #[.pointer (some ⟨y, 0, none⟩), .slice Arl rl.length crl, .slice Ark rk.length crk, .int .i64 (runs : Int), .bool true, .slice Alv 0 clv, .slice (some ⟨gq, oq, none⟩) (r.length + 1) cmk, .slice Agl gl.length cgl, .slice A3 (gk.length + 1) c3] ∧ DS wd base y v (callS m) ∧ Apt (fun t => t = y ∨ t = z) w wd ∧ OwnL 3 wd w.heap.size 89 (.slice A3 (gk.length + 1) c3) ((gk ++ [(⟨x0, x1, x2⟩ : Mk)]).map mkRw)))
            case first =>
              refine wp_region_mix5 14 (.read 0 (.read 2 (.read 3 (.read 4 (.read 5 (.read 6 (.read 8 (.both 1 (.both 7 (.step 9 (.step 10 (.free 11 (.free 12 (.free 13 (.store 14 .done)))))) 9 (.step 7 (.step 10 (.free 11 (.free 12 (.free 13 (.store 14 .done))))))) 9 (.step 1 (.step 7 (.step 10 (.free 11 (.free 12 (.free 13 (.store 14 .done)))))))))))))) ) (fun u => Below wc.heap.size wc u) (by kernel_rfl) (by kernel_rfl) (by decide +kernel) rfl (Below.refl _ _).drew ?_
              repeat
                (refine mix5_read (o := ⟨_, _, _, _, _, _⟩) (v := ?_) rfl (by rfl) (fun w' hU => ?_) ?_
                 rotate_left
                 obtain ⟨i0, i1, i2, i3⟩ := HS11.out _ hU
                 go_simp
                 with_reducible rfl
                 try simp only [Act.put, List.setIfInBounds_toArray, List.set_cons_zero, List.set_cons_succ])
              refine mix5_both ?_ ?_
              · refine mix5_step (o := ⟨_, _, _, _, _, _⟩) rfl (fun K hK => ?_)
                go_simp
                have hbA : Below wc.heap.size wc (wc.drew.alloc (.cells #[] 89)) := (Below.refl _ _).drew.alloc (Nat.le_refl _) _
                refine hK.out _ _ hbA ?_
                clear hK K
                try simp only [Act.put, List.setIfInBounds_toArray, List.set_cons_zero, List.set_cons_succ]
                refine mix5_both ?_ ?_
                · refine mix5_step (o := ⟨_, _, _, _, _, _⟩) rfl (fun K hK => ?_)
                  refine step_append_elems markT rfl _ _ rfl rfl (ownL_none18 wc.drew 3 wc.heap.size 89 (Nat.le_refl _)) rfl (HV.out _ hbA) (by intro yy hyy; obtain ⟨zz, _, rfl⟩ := List.mem_map.1 hyy; simp [mkRw, Value.oneCell']) (by simp only [maxLen, List.length_nil, List.length_map]; omega) (by simp only [List.length_nil, List.length_map]; omega) hbA.size ?_
                  intro v2 W2 hoW2 hgW2 hvW2
                  have hbW2 : Below wc.heap.size wc W2 := hbA.grown hgW2 hbA.size (fun t ht => by injection ht with ht; exact Nat.le_of_eq ht)
                  refine hK.out _ _ hbW2 ?_
                  clear hK K
                  try simp only [Act.put, List.setIfInBounds_toArray, List.set_cons_zero, List.set_cons_succ]
                  refine mix5_step (o := ⟨_, _, _, _, _, _⟩) rfl (fun K hK => ?_)
                  go_simp
                  have hbB : Below wc.heap.size wc (W2.alloc (.cells #[.int .u64 x0, .int .i64 x1, .int .u64 x2] 89)) := hbW2.alloc hbW2.size _
                  refine hK.out _ _ hbB ?_
                  clear hK K
                  try simp only [Act.put, List.setIfInBounds_toArray, List.set_cons_zero, List.set_cons_succ]
                  refine mix5_step (o := ⟨_, _, _, _, _, _⟩) rfl (fun K hK => ?_)
                  refine step_append_elems markT rfl _ _ rfl rfl (hoW2.alloc _) rfl (Lv.lit1 (w := W2) [.int .u64 x0, .int .i64 x1, .int .u64 x2] 89) (by intro yy hyy; rw [List.mem_singleton] at hyy; subst hyy; simp [Value.oneCell']) (by simp only [maxLen, List.nil_append, List.length_map, List.length_singleton]; omega) (by simp only [List.nil_append, List.length_map, List.length_singleton]; omega) hbB.size ?_
                  intro v3 W3 hoW3 hgW3 hvW3
                  have hbW3 : Below wc.heap.size wc W3 := hbB.grown hgW3 hbB.size (fun t ht => hoW2.ge t ht)
                  refine hK.out _ _ hbW3 ?_
                  clear hK K
                  try simp only [Act.put, List.setIfInBounds_toArray, List.set_cons_zero, List.set_cons_succ]
                  repeat
                    (refine mix5_free (o := ⟨_, _, _, _, _, _⟩) (v := ?_) rfl (by rfl) (fun w' => ?_) ?_
                     rotate_left
                     go_simp
                     with_reducible rfl
                     try simp only [Act.put, List.setIfInBounds_toArray, List.set_cons_zero, List.set_cons_succ])
                  obtain ⟨A3, c3, hv3, _, _⟩ := hoW3.lv.form
                  have hlen3 : (([] ++ List.map mkRw gk) ++ [([.int .u64 x0, .int .i64 x1, .int .u64 x2] : List Value)]).length = gk.length + 1 := by simp
                  rw [hlen3] at hv3
                  subst hv3
                  have hB3 := HB8.out.below hbW3 HB8.out.lt
                  have hfz := hB3.frozen 8
                  have k7 := hB3.cell 8
                  simp at k7
                  refine mix5_store (o := ⟨_, _, _, _, _, _⟩) rfl (fun K hK => ?_)
                  go_simp
                  refine hK.out _ _ ?_
                  clear hK K
                  try simp only [Act.put, List.setIfInBounds_toArray, List.set_cons_zero, List.set_cons_succ]
                  refine mix5_done ?_
                  go_wp2_with fail
                  go_meet
                  case rel =>
                    have hbn := hB3.set_ 8 (.slice A3 (gk.length + 1) c3)
                    refine ⟨A3, c3, Lib.hid ⟨(by simpa using hbn), HDS.out _ _ _ (HD8.out.below hbW3), HSET.out _ _ _ _ (HA8.out.trans (Apt.of_below hbW3)), ?_⟩⟩
                    have h1 := (hoW3.lower HSZ.out).kept (grown_set W3 z 8 (.slice A3 (gk.length + 1) c3)) (.inr ((hoW3.lower HSZ.out).ne_ HZW.out))
                    simpa [mkRw] using h1
                · refine mix5_step (o := ⟨_, _, _, _, _, _⟩) rfl (fun K hK => ?_)
                  go_simp
                  have hbB : Below wc.heap.size wc ((wc.drew.alloc (.cells #[] 89)).alloc (.cells #[.int .u64 x0, .int .i64 x1, .int .u64 x2] 89)) := hbA.alloc hbA.size _
                  refine hK.out _ _ hbB ?_
                  clear hK K
                  try simp only [Act.put, List.setIfInBounds_toArray, List.set_cons_zero, List.set_cons_succ]
                  refine mix5_step (o := ⟨_, _, _, _, _, _⟩) rfl (fun K hK => ?_)
                  refine step_append_elems markT rfl _ _ rfl rfl ((ownL_none18 wc.drew 3 wc.heap.size 89 (Nat.le_refl _)).alloc _) rfl (HV.out _ hbB) (by intro yy hyy; obtain ⟨zz, _, rfl⟩ := List.mem_map.1 hyy; simp [mkRw, Value.oneCell']) (by simp only [maxLen, List.length_nil, List.length_map]; omega) (by simp only [List.length_nil, List.length_map]; omega) hbB.size ?_
                  intro v2 W2 hoW2 hgW2 hvW2
                  have hbW2 : Below wc.heap.size wc W2 := hbB.grown hgW2 hbB.size (fun t ht => by injection ht with ht; exact Nat.le_of_eq ht)
                  have hgW2' : ((wc.drew.alloc (.cells #[] 89)).alloc (.cells #[.int .u64 x0, .int .i64 x1, .int .u64 x2] 89)).grownBy W2 (some wc.heap.size) := hgW2
                  have hlit : Lv 3 W2 (.slice (some ⟨(wc.drew.alloc (.cells #[] 89)).heap.size, 0, none⟩) 1 1) [[.int .u64 x0, .int .i64 x1, .int .u64 x2]] := (Lv.lit1 (w := wc.drew.alloc (.cells #[] 89)) [.int .u64 x0, .int .i64 x1, .int .u64 x2] 89).grown hgW2' (fun _ e => by
                    rw [World.size_alloc] at e
                    have e2 : wc.heap.size + 1 = wc.heap.size := Option.some.inj e
                    omega)
                  simp only [World.size_alloc] at hlit
                  refine hK.out _ _ hbW2 ?_
                  clear hK K
                  try simp only [Act.put, List.setIfInBounds_toArray, List.set_cons_zero, List.set_cons_succ]
                  refine mix5_step (o := ⟨_, _, _, _, _, _⟩) rfl (fun K hK => ?_)
                  refine step_append_elems markT rfl _ _ rfl rfl (hoW2) rfl (hlit) (by intro yy hyy; rw [List.mem_singleton] at hyy; subst hyy; simp [Value.oneCell']) (by simp only [maxLen, List.nil_append, List.length_map, List.length_singleton]; omega) (by simp only [List.nil_append, List.length_map, List.length_singleton]; omega) hbW2.size ?_
                  intro v3 W3 hoW3 hgW3 hvW3
                  have hbW3 : Below wc.heap.size wc W3 := hbW2.grown hgW3 hbW2.size (fun t ht => hoW2.ge t ht)
                  refine hK.out _ _ hbW3 ?_
                  clear hK K
                  try simp only [Act.put, List.setIfInBounds_toArray, List.set_cons_zero, List.set_cons_succ]
                  repeat
                    (refine mix5_free (o := ⟨_, _, _, _, _, _⟩) (v := ?_) rfl (by rfl) (fun w' => ?_) ?_
                     rotate_left
                     go_simp
                     with_reducible rfl
                     try simp only [Act.put, List.setIfInBounds_toArray, List.set_cons_zero, List.set_cons_succ])
                  obtain ⟨A3, c3, hv3, _, _⟩ := hoW3.lv.form
                  have hlen3 : (([] ++ List.map mkRw gk) ++ [([.int .u64 x0, .int .i64 x1, .int .u64 x2] : List Value)]).length = gk.length + 1 := by simp
                  rw [hlen3] at hv3
                  subst hv3
                  have hB3 := HB8.out.below hbW3 HB8.out.lt
                  have hfz := hB3.frozen 8
                  have k7 := hB3.cell 8
                  simp at k7
                  refine mix5_store (o := ⟨_, _, _, _, _, _⟩) rfl (fun K hK => ?_)
                  go_simp
                  refine hK.out _ _ ?_
                  clear hK K
                  try simp only [Act.put, List.setIfInBounds_toArray, List.set_cons_zero, List.set_cons_succ]
                  refine mix5_done ?_
                  go_wp2_with fail
                  go_meet
                  case rel =>
                    have hbn := hB3.set_ 8 (.slice A3 (gk.length + 1) c3)
                    refine ⟨A3, c3, Lib.hid ⟨(by simpa using hbn), HDS.out _ _ _ (HD8.out.below hbW3), HSET.out _ _ _ _ (HA8.out.trans (Apt.of_below hbW3)), ?_⟩⟩
                    have h1 := (hoW3.lower HSZ.out).kept (grown_set W3 z 8 (.slice A3 (gk.length + 1) c3)) (.inr ((hoW3.lower HSZ.out).ne_ HZW.out))
                    simpa [mkRw] using h1
              · refine mix5_step (o := ⟨_, _, _, _, _, _⟩) rfl (fun K hK => ?_)
                go_simp
                have hbB : Below wc.heap.size wc (wc.drew.alloc (.cells #[.int .u64 x0, .int .i64 x1, .int .u64 x2] 89)) := (Below.refl _ _).drew.alloc (Nat.le_refl _) _
                refine hK.out _ _ hbB ?_
                clear hK K
                try simp only [Act.put, List.setIfInBounds_toArray, List.set_cons_zero, List.set_cons_succ]
                refine mix5_step (o := ⟨_, _, _, _, _, _⟩) rfl (fun K hK => ?_)
                go_simp
                have hbA : Below wc.heap.size wc ((wc.drew.alloc (.cells #[.int .u64 x0, .int .i64 x1, .int .u64 x2] 89)).alloc (.cells #[] 89)) := hbB.alloc hbB.size _
                have hown0 := ownL_none18 (wc.drew.alloc (.cells #[.int .u64 x0, .int .i64 x1, .int .u64 x2] 89)) 3 wc.heap.size 89 hbB.size
                simp only [World.size_alloc] at hown0
                refine hK.out _ _ hbA ?_
                clear hK K
                try simp only [Act.put, List.setIfInBounds_toArray, List.set_cons_zero, List.set_cons_succ]
                refine mix5_step (o := ⟨_, _, _, _, _, _⟩) rfl (fun K hK => ?_)
                refine step_append_elems markT rfl _ _ rfl rfl (hown0) rfl (HV.out _ hbA) (by intro yy hyy; obtain ⟨zz, _, rfl⟩ := List.mem_map.1 hyy; simp [mkRw, Value.oneCell']) (by simp only [maxLen, List.length_nil, List.length_map]; omega) (by simp only [List.length_nil, List.length_map]; omega) hbA.size ?_
                intro v2 W2 hoW2 hgW2 hvW2
                have hgW2' : ((wc.drew.alloc (.cells #[.int .u64 x0, .int .i64 x1, .int .u64 x2] 89)).alloc (.cells #[] 89)).grownBy W2 (some (wc.heap.size + 1)) := hgW2
                have hbW2 : Below wc.heap.size wc W2 := hbA.grown hgW2' hbA.size (fun t ht => by have := Option.some.inj ht; omega)
                have hlit : Lv 3 W2 (.slice (some ⟨wc.drew.heap.size, 0, none⟩) 1 1) [[.int .u64 x0, .int .i64 x1, .int .u64 x2]] := ((Lv.lit1 (w := wc.drew) [.int .u64 x0, .int .i64 x1, .int .u64 x2] 89).alloc _).grown hgW2' (fun _ e => by
                  have e2 : wc.heap.size = wc.heap.size + 1 := Option.some.inj e
                  omega)
                refine hK.out _ _ hbW2 ?_
                clear hK K
                try simp only [Act.put, List.setIfInBounds_toArray, List.set_cons_zero, List.set_cons_succ]
                refine mix5_step (o := ⟨_, _, _, _, _, _⟩) rfl (fun K hK => ?_)
                refine step_append_elems markT rfl _ _ rfl rfl (hoW2) rfl (hlit) (by intro yy hyy; rw [List.mem_singleton] at hyy; subst hyy; simp [Value.oneCell']) (by simp only [maxLen, List.nil_append, List.length_map, List.length_singleton]; omega) (by simp only [List.nil_append, List.length_map, List.length_singleton]; omega) hbW2.size ?_
                intro v3 W3 hoW3 hgW3 hvW3
                have hbW3 : Below wc.heap.size wc W3 := hbW2.grown hgW3 hbW2.size (fun t ht => hoW2.ge t ht)
                refine hK.out _ _ hbW3 ?_
                clear hK K
                try simp only [Act.put, List.setIfInBounds_toArray, List.set_cons_zero, List.set_cons_succ]
                repeat
                  (refine mix5_free (o := ⟨_, _, _, _, _, _⟩) (v := ?_) rfl (by rfl) (fun w' => ?_) ?_
                   rotate_left
                   go_simp
                   with_reducible rfl
                   try simp only [Act.put, List.setIfInBounds_toArray, List.set_cons_zero, List.set_cons_succ])
                obtain ⟨A3, c3, hv3, _, _⟩ := hoW3.lv.form
                have hlen3 : (([] ++ List.map mkRw gk) ++ [([.int .u64 x0, .int .i64 x1, .int .u64 x2] : List Value)]).length = gk.length + 1 := by simp
                rw [hlen3] at hv3
                subst hv3
                have hB3 := HB8.out.below hbW3 HB8.out.lt
                have hfz := hB3.frozen 8
                have k7 := hB3.cell 8
                simp at k7
                refine mix5_store (o := ⟨_, _, _, _, _, _⟩) rfl (fun K hK => ?_)
                go_simp
                refine hK.out _ _ ?_
                clear hK K
                try simp only [Act.put, List.setIfInBounds_toArray, List.set_cons_zero, List.set_cons_succ]
                refine mix5_done ?_
                go_wp2_with fail
                go_meet
                case rel =>
                  have hbn := hB3.set_ 8 (.slice A3 (gk.length + 1) c3)
                  refine ⟨A3, c3, Lib.hid ⟨(by simpa using hbn), HDS.out _ _ _ (HD8.out.below hbW3), HSET.out _ _ _ _ (HA8.out.trans (Apt.of_below hbW3)), ?_⟩⟩
                  have h1 := (hoW3.lower HSZ.out).kept (grown_set W3 z 8 (.slice A3 (gk.length + 1) c3)) (.inr ((hoW3.lower HSZ.out).ne_ HZW.out))
                  simpa [mkRw] using h1
            case rest =>
              obtain ⟨A3, c3, HC9⟩ := hcut
              have HB9 := Lib.hid HC9.out.1
              have HD9 := Lib.hid HC9.out.2.1
              have HA9 := Lib.hid HC9.out.2.2.1
              have HO9 := Lib.hid HC9.out.2.2.2
              obtain ⟨A5, hA5⟩ : ∃ A5, A5 = (if cmk = 1 then some (⟨gq, oq, none⟩ : Addr) else (some (⟨gq, oq, none⟩ : Addr)).map (·.add 1)) := ⟨_, rfl⟩
              obtain ⟨c5, hc5⟩ : ∃ c5, c5 = cmk - 1 := ⟨_, rfl⟩
              have hsl : ∀ u, (Instr.slice 39 (.slice (some ⟨gq, oq, none⟩) (r.length + 1) cmk) (some (.int .i64 1)) none none).run Tryz.prog u = .ok (.slice A5 r.length c5) u := fun u => by
                have := run_slice_from (P := Tryz.prog) (A := some ⟨gq, oq, none⟩) (n := r.length + 1) (c := cmk) uT rfl 1 (by omega) HCAP.out u
                rw [hA5, hc5]
                simpa using this
              have HLV : Hid (∀ u, Us u (.slice (some ⟨gq, oq, none⟩) (r.length + 1) cmk) (id :: r) → Us u (.slice A5 r.length c5) r) := Lib.hid fun u hu => by
                have := Us.rest hu
                rw [hA5, hc5]
                simpa using this
              have kl := HB9.out.cell 6
              have fl := HB9.out.frozen 6
              simp at kl
              clear HC9 hA5 hc5 HT8 HD8 HA8 HB8 HS11 HV hgl
              go_wp2_with fail
              go_meet
              case rel =>
                have hb := HB9.out.set_ 6 (.slice A5 r.length c5)
                have ha := HSET.out _ w 6 (.slice A5 r.length c5) HA9.out
                refine ⟨mc, _, rfl, Lib.hid ⟨HPG.out, rfl, HDS.out _ _ _ HD9.out, ⟨_, _, _, _, _, _, (by simpa using hb), fun u hu => ?_⟩, ha⟩⟩
                have h := HGB.out _ ha u hu
                have ho := (HO9.out.kept (grown_set _ z 6 (.slice A5 r.length c5)) (.inr (HO9.out.ne_ HZW.out))).apt hu fun t ht hb => by
                  have := HO9.out.ge t ht
                  have := HLT.out t hb
                  omega
                have hok : ∀ a ∈ gk ++ [(⟨x0, x1, x2⟩ : Mk)], a.ok := fun a ha => by
                  rcases List.mem_append.1 ha with h1 | h1
                  · exact Mks.ok h.gk a h1
                  · rw [List.mem_singleton] at h1
                    rw [h1]
                    exact HMO.out
                have hnew := Mks.of_lv ho.lv hok
                exact ⟨h.rl, h.rk, h.lv, HLV.out _ h.km, h.gl, (by simpa using hnew)⟩
  case rest =>
    obtain ⟨c, p', rfl, HC⟩ := hcut
    have HST : Hid (plStep m q = plEnd c p') := Lib.hid (by rw [plStep, HC.out.1])
    obtain ⟨hg, hon, hD, hP, hA⟩ := HC.out
    have hfew := HFEW.out
    rw [hg] at hfew
    obtain ⟨rl, rk, lv, mk, gl, gk, hB, hK⟩ := hP
    obtain ⟨Brl, drl, rfl, _, _⟩ := hK.here.rl.form
    obtain ⟨Brk, drk, rfl, _, _⟩ := hK.here.rk.form
    obtain ⟨Blv, dlv, rfl, _, _⟩ := hK.here.lv.form
    obtain ⟨Bmk, dmk, rfl, _, _⟩ := hK.here.km.form
    obtain ⟨Bgl, dgl, rfl, _, _⟩ := hK.here.gl.form
    obtain ⟨Bgk, dgk, rfl, _, _⟩ := hK.here.gk.form
    obtain ⟨on', lv', mr', gl', gk', rl', rk', runs'⟩ := p'
    simp only at hon hfew hB hK
    subst hon
    have hrun : runs' ≤ 1000000 := by
      have := HRUN.out
      rw [hg] at this
      exact this
    have hf1 : lv'.length + mr'.length ≤ 2000 := by have := hfew.1; omega
    have hf2 : gl'.length + gk'.length ≤ 2000 := by have := hfew.1; omega
    have HA := Lib.hid hA
    have HDc := Lib.hid hD
    have HBc := Lib.hid hB
    have HKc := Lib.hid hK
    have f1 := hB.frozen 1
    have f2 := hB.frozen 2
    have f3 := hB.frozen 3
    have f4 := hB.frozen 4
    have k3 := hB.cell 3
    have k4 := hB.cell 4
    have k5 := hB.cell 5
    have k6 := hB.cell 6
    have k7 := hB.cell 7
    have k8 := hB.cell 8
    have k1 := hB.cell 1
    have k2 := hB.cell 2
    simp at k1 k2 k3 k4 k5 k6 k7 k8
    have HSET : Hid (∀ (u : World) (i : Nat) (x : Value), Apt (fun t => t = y ∨ t = z) w u → Apt (fun t => t = y ∨ t = z) w (u.setCell ⟨z, i, none⟩ x)) := Lib.hid fun u i x h => h.trans (Apt.of_grown (grown_set u z i x) fun t ht => .inr (Option.some.inj ht).symm)
    have HDS : Hid (∀ (u : World) (i : Nat) (x : Value), DS u base y v (callS m) → DS (u.setCell ⟨z, i, none⟩ x) base y v (callS m)) := Lib.hid fun u i x h => ⟨((grown_set u z i x).block y h.blk.lt fun e => HZY.out.1 (Option.some.inj e).symm).trans h.blk, h.row.kept (grown_set u z i x) (.inr HZY.out.2), h.ne, h.ge⟩
    have HGO : Hid (∀ (u : World) (i : Nat) (x : Value), Apt bad u (u.setCell ⟨z, i, none⟩ x)) := Lib.hid fun u i x => Apt.of_grown (grown_set u z i x) fun t ht => by
      have := Option.some.inj ht
      subst this
      exact HBY.out.2
    clear hg hD hA hfew hB hK
    by_cases hc : c = 0
    rotate_left
    · have hcb : (c != 0) = true := by simpa using hc
      have HX : Hid (plStep m q = (false, c, ⟨false, lv', mr', gl', gk', rl', rk', runs'⟩)) := Lib.hid (by rw [HST.out, plEnd_bad hc])
      clear hc HST
      go_wp2_with fail
      go_ret2
      rw [HX.out]
      have hb := HBc.out.set_ 4 (.bool false)
      refine ⟨rfl, HDS.out _ _ _ HDc.out, ⟨_, _, _, _, _, _, (by simpa using hb), fun u hu => ?_⟩, HSET.out _ _ _ HA.out⟩
      have h := HKc.out.go (HGO.out wc 4 (.bool false)) (fun _ h => .inl h) u hu
      exact ⟨h.rl, h.rk, h.lv, h.km, h.gl, h.gk⟩
    subst hc
    have hw1 : IntKind.i64.wrap ((lv'.length : Int) + (mr'.length : Int)) = (lv'.length : Int) + (mr'.length : Int) := IntWalk.i64_in _ (by omega)
    have hw2 : IntKind.i64.wrap ((gl'.length : Int) + (gk'.length : Int)) = (gl'.length : Int) + (gk'.length : Int) := IntWalk.i64_in _ (by omega)
    have hw3 : IntKind.i64.wrap ((runs' : Int) + 1) = (runs' : Int) + 1 := IntWalk.i64_in _ (by omega)
    by_cases hmo : 0 < lv'.length + mr'.length
    · have hd : decide ((0 : Int) < (lv'.length : Int) + (mr'.length : Int)) = true := decide_eq_true (by omega)
      have HX : Hid (plStep m q = (false, 0, ⟨true, lv', mr', gl', gk', rl', rk', runs'⟩)) := Lib.hid (by rw [HST.out, plEnd_on hmo])
      clear hmo HST
      go_wp2_with fail
      go_quiet (fail)
      go_wp2_with fail
      go_ret2
      rw [HX.out]
      exact ⟨rfl, HDc.out.below (below_drewN (Below.refl _ _) _), ⟨_, _, _, _, _, _, HBc.out.drewN _, HKc.out.below (below_drewN (Below.refl _ _) _)⟩, HA.out.trans (Apt.of_below (below_drewN (Below.refl _ _) _))⟩
    have hd : decide ((0 : Int) < (lv'.length : Int) + (mr'.length : Int)) = false := decide_eq_false (by omega)
    obtain rfl : lv' = [] := List.eq_nil_of_length_eq_zero (by omega)
    obtain rfl : mr' = [] := List.eq_nil_of_length_eq_zero (by omega)
    by_cases hla : 1000 < gl'.length + gk'.length
    · have hd2 : decide ((1000 : Int) < (gl'.length : Int) + (gk'.length : Int)) = true := decide_eq_true (by omega)
      have HX : Hid (plStep m q = (false, 3, ⟨false, [], [], gl', gk', rl', rk', runs'⟩)) := Lib.hid (by rw [HST.out, plEnd_large rfl rfl hla])
      clear hmo hla HST
      go_wp2_with fail
      go_quiet (fail)
      revert nq
      intro nq1
      go_wp2_with fail
      go_quiet (fail)
      go_wp2_with fail
      go_ret2
      rw [HX.out]
      have hb := (HBc.out.drewN nq1).set_ 4 (.bool false)
      have hbw := below_drewN (Below.refl wc.heap.size wc) nq1
      refine ⟨rfl, (HDS.out _ _ _ (HDc.out.below hbw)).below (below_drewN (Below.refl _ _) _), ⟨_, _, _, _, _, _, (by simpa using hb.drewN nq), fun u hu => ?_⟩, (HSET.out _ _ _ (HA.out.trans (Apt.of_below hbw))).trans (Apt.of_below (below_drewN (Below.refl _ _) _))⟩
      have h := (((HKc.out.below hbw).go (HGO.out _ 4 (.bool false)) (fun _ h => .inl h)).below (below_drewN (Below.refl _ _) nq)) u hu
      exact ⟨h.rl, h.rk, h.lv, h.km, h.gl, h.gk⟩
    · have hd2 : decide ((1000 : Int) < (gl'.length : Int) + (gk'.length : Int)) = false := decide_eq_false (by omega)
      have HX : Hid (plStep m q = (true, 0, ⟨false, [], [], gl', gk', gl', gk', runs' + 1⟩)) := Lib.hid (by rw [HST.out, plEnd_whole rfl rfl hla])
      clear hmo hla HST
      go_wp2_with fail
      go_quiet (fail)
      revert nq
      intro nq1
      go_wp2_with fail
      go_quiet (fail)
      go_wp2_with fail
      go_ret2
      rw [HX.out]
      have hb := (((((HBc.out.drewN nq1).set_ 4 (.bool false)).drewN nq).set_ 1 (.slice Bgl gl'.length dgl)).set_ 2 (.slice Bgk gk'.length dgk)).set_ 3 (.int .i64 ((runs' : Int) + 1))
      have hbw := below_drewN (Below.refl wc.heap.size wc) nq1
      have hd4 := (HDS.out _ 4 (.bool false) (HDc.out.below hbw)).below (below_drewN (Below.refl _ _) nq)
      have ha4 := (HSET.out _ 4 (.bool false) (HA.out.trans (Apt.of_below hbw))).trans (Apt.of_below (below_drewN (Below.refl _ _) nq))
      have hk4 := ((HKc.out.below hbw).go (HGO.out _ 4 (.bool false)) (fun _ h => .inl h)).below (below_drewN (Below.refl _ _) nq)
      refine ⟨rfl, HDS.out _ _ _ (HDS.out _ _ _ (HDS.out _ _ _ hd4)), ⟨_, _, _, _, _, _, (by simpa using hb), fun u hu => ?_⟩, HSET.out _ _ _ (HSET.out _ _ _ (HSET.out _ _ _ ha4))⟩
      have h := ((hk4.go (HGO.out _ _ _) (fun _ h => .inl h)).go (HGO.out _ _ _) (fun _ h => .inl h)).go (HGO.out _ _ _) (fun _ h => .inl h) u hu
      exact ⟨h.gl, h.gk, h.lv, h.km, h.gl, h.gk⟩

theorem PlDone.same {m : Sm} {q : Pl} (h : PlDone (liR m).1.1 (liR m).1.2.1 (liR m).1.2.2 Pl.new q) : q.rl = (liR m).1.2.1 ∧ q.rk = (liR m).1.2.2 := by
  by_cases hc : (liR m).1.1 = 0
  · exact ⟨(h.yes hc).1, (h.yes hc).2.1⟩
  · have h1 := h.no hc
    have h2 := liR_err hc
    rw [h2]
    exact ⟨h1.1, h1.2.1⟩

theorem as18_any (a b : Value) (l : List Me) (k : List Mk) (w : World) (h : Mes w a l) (q : Mks w b k) :
    Calls Tryz.prog 19 #[roV a b] w fun e w' => e = .returned (roV a b) ∧ Below w.heap.size w w' := by
  obtain ⟨A, c, rfl, _, _⟩ := h.form
  obtain ⟨B, d, rfl, _, _⟩ := q.form
  have HB : Hid (Below w.heap.size w ((w.alloc (.cells #[.slice A l.length c, .slice B k.length d] 60)).alloc (.cells #[.slice A l.length c, .slice B k.length d] 38))) := Lib.hid (((Below.refl _ _).alloc (Nat.le_refl _) _).alloc (by simp) _)
  clear h q
  go_enter Tryz.func19, Tryz.ntmps19
  go_wp2_with fail
  refine bodyPost_ret (v := roV (.slice A l.length c) (.slice B k.length d)) (by simp [results, Tryz.results19, go_sem]; try rfl) rfl ?_
  exact ⟨rfl, HB.out⟩

theorem mix_miss {P : Program} {ops : Array Oper} {Q : Exit → Act → World → Prop} {S : World → Prop} {i : Nat} {r : List (Nat × Bool)} {o : Oper} {a : Act} {w : World} (hi : ops[i]? = some o) (hw : Region.wanted o (yielded ops a.tmps) = false) (hS : S w)
    (h : wpMix P ops Q r S (a.put o.dst undef) w) : wpMix P ops Q ((i, true) :: r) S a w := mix_step hi fun K hK => by
  rw [if_neg (by rw [hw]; simp)]
  exact hK.out _ _ hS h

set_option maxHeartbeats 12800000 in
theorem pollLists_any {L : World → Prop} {PP : World → (Nat → Prop) → Nat → Nat → Sm → Pl → Prop} (hK : PollK L PP) (v bv : Value) (l : List Ob) (mn mb : List UInt8) (fails : Int) (w : World) (h : Pts w v l) (hb : Bs w bv mb) (hmn : mn.length ≤ 9223372036854775807) (hf0 : -9223372036854775808 ≤ fails) (hf1 : fails ≤ 9223372036854775807) (hL : L w) :
    Calls Tryz.prog 4 #[v, .agg #[.string (Bstr mn), bv], .int .i64 fails] w fun e w' => e = .returned (.bool true) ∧ Below w.heap.size w w' := by
  have hLw : ∀ u, Below w.heap.size w u → L u := fun u hu => hK.later hL hu
  have HLW := Lib.hid hLw
  have HP := Lib.hid fun (u : World) (hu : Below w.heap.size w u) => (show Pts u v l from by
    obtain ⟨xs, h1, h2⟩ := h
    exact ⟨xs, h1.below hu, h2.mono fun _ _ ⟨hn, z, hz, hb⟩ => ⟨hn, z, hz, hb.below hu⟩⟩)
  have HBV := Lib.hid hb
  obtain ⟨Ab, cb, rfl, _, _, _⟩ := id hb
  have hb0 : Below w.heap.size w (w.alloc (.cells #[.string (Bstr mn), .slice Ab mb.length cb] 44)) := (Below.refl _ _).alloc (Nat.le_refl _) _
  have HR0 : Hid (Blk (w.alloc (.cells #[.string (Bstr mn), .slice Ab mb.length cb] 44)) w.heap.size 44 #[.string (Bstr mn), .slice Ab mb.length cb]) := Lib.hid (Blk.new _ _ _)
  have HB0 := Lib.hid hb0
  clear h hb hL hLw hb0
  go_enter Tryz.func4, Tryz.ntmps4
  go_wp2_with fail
  revert HR0 HB0
  generalize w.alloc (.cells #[.string (Bstr mn), .slice Ab mb.length cb] 44) = w0
  intro HR0 HB0
  refine (up18_any hK _ (HLW.out _ HB0.out)).mono ?_
  rintro e w1 ⟨rfl, hb1⟩
  have HB1 := Lib.hid (HB0.out.trans (hb1.mono HB0.out.size))
  have HR1 := Lib.hid (HR0.out.below hb1 HR0.out.lt)
  clear hb1 HB0 HR0
  go_wp2_with fail
  refine (Filled_any v l _ (HP.out _ HB1.out)).mono ?_
  rintro e w2 hcase
  rcases hcase with ⟨g, rfl, hb2⟩ | ⟨g, gy, F, G, m, rfl, hmf, hleft, hnms, hW2⟩
  · have HB2 := Lib.hid (HB1.out.trans (hb2.mono HB1.out.size))
    clear hb2
    go_wp2_with fail
    go_ret
    exact ⟨rfl, HB2.out⟩
  have HW2 := Lib.hid hW2
  have HM := Lib.hid hmf
  have HLEFT := Lib.hid hleft
  have HNMS := Lib.hid hnms
  have HLU : Hid (∀ u, Below w1.heap.size w1 u → L u) := Lib.hid fun u hu => HLW.out _ (HB1.out.trans (hu.mono HB1.out.size))
  have HFIN : Hid (∀ u, Below w1.heap.size w1 u → Below w.heap.size w u) := Lib.hid fun u hu => HB1.out.trans (hu.mono HB1.out.size)
  have HRU : Hid (∀ u, Below w1.heap.size w1 u → u.cell? ⟨w.heap.size, 0, none⟩ = some (.string (Bstr mn)) ∧ u.cell? ⟨w.heap.size, 1, none⟩ = some (.slice Ab mb.length cb)) := Lib.hid fun u hu => by
    have h0 := (HR1.out.below hu HR1.out.lt).cell 0
    have h1 := (HR1.out.below hu HR1.out.lt).cell 1
    exact ⟨by simpa using h0, by simpa using h1⟩
  have HOLD : Hid (∀ q, (Value.slice Ab mb.length cb).ownBlock = some q → mb ≠ [] → q < w.heap.size) := Lib.hid fun q hq hne => by
    obtain ⟨k, hk, hlt⟩ := HBV.out.block hne
    rw [hk] at hq
    have := Option.some.inj hq
    omega
  have HSZ : Hid (w.heap.size ≤ w1.heap.size) := Lib.hid HB1.out.size
  have HBU : Hid (∀ u, Below w1.heap.size w1 u → Bs u (.slice Ab mb.length cb) mb) := Lib.hid fun u hu => HBV.out.below (HFIN.out u hu)
  clear hW2 hmf hleft hnms HLW HP HB1 HR1 HBV
  obtain ⟨q0, q1⟩ := HRU.out w2 HW2.out.below
  by_cases hbig : 1000 < mb.length
  · have hd : decide ((1000 : Int) < (mb.length : Int)) = true := decide_eq_true (by omega)
    clear hbig
    go_wp2_with fail
    go_ret
    exact ⟨rfl, HFIN.out _ HW2.out.below⟩
  have hd : decide ((1000 : Int) < (mb.length : Int)) = false := decide_eq_false (by omega)
  have hN := hK.new HW2.out.a
  go_wp2_with fail
  refine hN.mono ?_
  rintro e w3 ⟨p, F3, rfl, hP3, hG3⟩
  have HW3 := Lib.hid (HW2.out.stepA (A' := fun u F => PP u F p g m Pl.new) (stA_thing _ _) (stB_thing _ _ _) hP3 hG3.apt hG3.new)
  clear hN hP3 hG3 HW2 q0 q1 hd
  have hPo := hK.poll HW3.out.a HM.out HNMS.out (by omega) rfl (Pl.fine.new 2000) (by decide) (Keep.of_old HLU.out HW3.out.below HW3.out.fge)
  have hfm : (liR m).2.fine 300 ∧ Nms (liR m).2 := by
    have h1 := liR_fine18 HM.out
    refine ⟨h1.1.more (by omega), ?_⟩
    intro o ho
    rw [h1.2] at ho
    exact HNMS.out o ho
  have HFM := Lib.hid hfm
  have HAG : Hid ((liR (liR m).2).1 = (liR m).1) := Lib.hid (liR_again HLEFT.out)
  have HLC := Lib.hid (liR_code18 m)
  go_wp2_with fail
  refine hPo.mono ?_
  rintro e w4 ⟨F4, q, rfl, hP4, hDn, hqf, hG4⟩
  have HW4 := Lib.hid (HW3.out.stepA (A' := fun u F => PP u F p g (liR m).2 q) (hK.thing _ _ _ _) (stB_thing _ _ _) hP4 hG4.apt hG4.new)
  have HDN := Lib.hid hDn
  have HQF := Lib.hid hqf
  clear hPo hP4 hG4 hDn hqf HW3
  have HM3 : Hid ((liR (liR m).2).2.fine 700 ∧ Nms (liR (liR m).2).2) := Lib.hid (by
    have h1 := liR_fine18 HFM.out.1
    refine ⟨h1.1.more (by omega), ?_⟩
    intro o ho
    rw [h1.2] at ho
    exact HFM.out.2 o ho)
  have HSM : Hid (q.rl = (liR m).1.2.1 ∧ q.rk = (liR m).1.2.2 ∧ q.on = false ∧ q.runs ≤ 1 ∧ ((liR m).1.1 = 0 → q.runs = 1)) := Lib.hid (by
    have h1 := HDN.out.same
    refine ⟨h1.1, h1.2, HDN.out.off, ?_, fun h => (HDN.out.yes h).2.2⟩
    by_cases hc : (liR m).1.1 = 0
    · rw [(HDN.out.yes hc).2.2]; decide
    · rw [(HDN.out.no hc).2.2]; decide)
  have hLi := fun u Fs (hp : PSt u Fs g (liR m).2) (hl : Keep Fs L u) => hK.list hp HFM.out.1 HFM.out.2 (by omega) hl
  rw [HAG.out] at hLi
  clear hfm HAG HDN
  revert hLi HLC HSM HM3 HFM HW4
  generalize (liR (liR m).2).2 = m3
  generalize liR m = lr
  intro HFM HLC HW4 HM3 HSM hLi
  obtain ⟨⟨lc, ll, lk⟩, m2⟩ := lr
  simp only at hLi HLC HSM HFM HW4 ⊢
  go_wp2_with fail
  obtain ⟨Fs, hPs, hsub, hwand⟩ := hK.store HW4.out.a
  have hLs := hLi w4 Fs hPs ((Keep.of_old HLU.out HW4.out.below HW4.out.fge).less fun x hx => .inl (hsub x hx))
  refine hLs.mono ?_
  rintro e w5 ⟨ra, rb, F5s, rfl, hP5, hG5, hX5⟩
  obtain ⟨F5, hPP5, hGo5, hF5⟩ := hwand hP5 hG5
  have HW5 : Hid (W2 (fun u => Mes u ra ll ∧ Mks u rb lk) w1 w5 (fun u F => PP u F p g m3 q) F5 (stB gy gy m) G) := Lib.hid ((HW4.out.stepA (A' := fun u F => PP u F p g m3 q) (hK.thing _ _ _ _) (stB_thing _ _ _) hPP5 hGo5.apt hGo5.new).say (hX5.less fun x hx => by
    rcases hx with h | h
    · rcases hF5 x h with h | h
      · exact .inl (.inl ((hK.thing _ _ _ _).lt HW4.out.a x h))
      · exact .inl (.inr h)
    · exact .inl (.inl ((stB_thing _ _ _).lt HW4.out.b x h))))
  clear hLi hLs hPs hsub hwand hP5 hG5 hX5 hPP5 hGo5 hF5 HW4
  obtain ⟨Ra, cra, rfl, _, _⟩ := HW5.out.x.1.form
  obtain ⟨Rb, crb, rfl, _, _⟩ := HW5.out.x.2.form
  have hb6 : Below w5.heap.size w5 (w5.alloc (.cells #[.slice Ra ll.length cra, .slice Rb lk.length crb] 60)) := (Below.refl _ _).alloc (Nat.le_refl _) _
  have HW6 : Hid (W2 (fun u => Blk u w5.heap.size 60 #[.slice Ra ll.length cra, .slice Rb lk.length crb] ∧ Mes u (.slice Ra ll.length cra) ll ∧ Mks u (.slice Rb lk.length crb) lk) w1 (w5.alloc (.cells #[.slice Ra ll.length cra, .slice Rb lk.length crb] 60)) (fun u F => PP u F p g m3 q) F5 (stB gy gy m) G) := Lib.hid ((HW5.out.later (hK.thing _ _ _ _) (stB_thing _ _ _) hb6).say (Keep.and (keepBlk (Blk.new w5 _ _) fun hbad => by
      have := HW5.out.bad_lt (hK.thing _ _ _ _) (stB_thing _ _ _) _ hbad
      omega) (HW5.out.later (hK.thing _ _ _ _) (stB_thing _ _ _) hb6).kx))
  clear hb6 HW5
  go_wp2_with fail
  revert HW6
  generalize w5.alloc (.cells #[.slice Ra ll.length cra, .slice Rb lk.length crb] 60) = w6
  generalize w5.heap.size = g5
  intro HW6
  go_cut [82] (fun bv wc => ∃ F7 : Nat → Prop, bv = .bool false ∧ Hid (W2 (fun _ => True) w1 wc (fun u F => PP u F p g m3 q) F7 (stB gy gy m) G))
  case first =>
    have HW7 := Lib.hid (HW6.out.later (hK.thing _ _ _ _) (stB_thing _ _ _) (Below.refl w6.heap.size w6).drew)
    have hRo := hK.ros HW7.out.a HQF.out
    have hS7 : w6.drew.cell? ⟨g5, 0, none⟩ = some (.slice Ra ll.length cra) ∧ w6.drew.cell? ⟨g5, 1, none⟩ = some (.slice Rb lk.length crb) := ⟨(HW7.out.x.1.cell 0).trans rfl, (HW7.out.x.1.cell 1).trans rfl⟩
    refine wp_region_mix [(0, false), (2, false), (1, true), (3, true), (4, false), (5, false), (6, false), (9, false), (7, true), (8, true), (10, true), (11, true), (12, false), (13, false), (14, false), (15, false), (16, false), (17, false), (18, false), (19, true), (20, false), (21, false), (22, false)] (fun u => u.cell? ⟨g5, 0, none⟩ = some (.slice Ra ll.length cra) ∧ u.cell? ⟨g5, 1, none⟩ = some (.slice Rb lk.length crb)) (by kernel_rfl) (by kernel_rfl) (by decide +kernel) rfl hS7 ?_
    repeat
      (refine mix_read (o := ⟨_, _, _, _, _, _⟩) (v := ?_) rfl (by rfl) (fun w' hU => ?_) ?_
       rotate_left
       obtain ⟨j0, j1⟩ := hU
       go_simp
       with_reducible rfl
       try simp only [Act.put, List.setIfInBounds_toArray, List.set_cons_zero, List.set_cons_succ])
    refine mix_step (o := ⟨_, _, _, _, _, _⟩) rfl (fun K hK2 => ?_)
    go_simp
    refine (Code_err lc _ HLC.out).mono ?_
    rintro e w7 ⟨rfl, rfl⟩
    refine hK2.out _ _ hS7 ?_
    clear hK2 K
    try simp only [Act.put, List.setIfInBounds_toArray, List.set_cons_zero, List.set_cons_succ]
    refine mix_step (o := ⟨_, _, _, _, _, _⟩) rfl (fun K hK2 => ?_)
    go_simp
    refine (Code_err lc _ HLC.out).mono ?_
    rintro e w7 ⟨rfl, rfl⟩
    refine hK2.out _ _ hS7 ?_
    clear hK2 K
    try simp only [Act.put, List.setIfInBounds_toArray, List.set_cons_zero, List.set_cons_succ]
    repeat
      (refine mix_read (o := ⟨_, _, _, _, _, _⟩) (v := ?_) rfl (by rfl) (fun w' hU => ?_) ?_
       rotate_left
       obtain ⟨j0, j1⟩ := hU
       go_simp
       with_reducible rfl
       try simp only [Act.put, List.setIfInBounds_toArray, List.set_cons_zero, List.set_cons_succ])
    refine mix_step (o := ⟨_, _, _, _, _, _⟩) rfl (fun K hK2 => ?_)
    go_simp
    refine hRo.mono ?_
    rintro e w8 ⟨a, b, F8, rfl, hP8, hG8, hX8⟩
    have HW8 : Hid (W2 (fun u => (Blk u g5 60 #[(.slice Ra ll.length cra), (.slice Rb lk.length crb)] ∧ Mes u (.slice Ra ll.length cra) ll ∧ Mks u (.slice Rb lk.length crb) lk) ∧ Mes u a q.rl ∧ Mks u b q.rk) w1 w8 (fun u F => PP u F p g m3 q) F8 (stB gy gy m) G) := Lib.hid (by
      have h1 := HW7.out.stepA (A' := fun u F => PP u F p g m3 q) (hK.thing _ _ _ _) (stB_thing _ _ _) hP8 hG8.apt hG8.new
      exact h1.say (Keep.and h1.kx (hX8.less fun x hx => by
        rcases hx with h | h
        · exact .inl (.inr h)
        · exact .inl (.inl ((stB_thing _ _ _).lt HW7.out.b x h)))))
    have hS8 : ∀ u, Below w8.heap.size w8 u → u.cell? ⟨g5, 0, none⟩ = some (.slice Ra ll.length cra) ∧ u.cell? ⟨g5, 1, none⟩ = some (.slice Rb lk.length crb) := fun u hu => by
      have hb := HW8.out.x.1.1
      exact ⟨((hb.below hu hb.lt).cell 0).trans rfl, ((hb.below hu hb.lt).cell 1).trans rfl⟩
    refine hK2.out _ _ (hS8 _ (Below.refl _ _)) ?_
    clear hK2 K
    try simp only [Act.put, List.setIfInBounds_toArray, List.set_cons_zero, List.set_cons_succ]
    clear hRo hP8 hG8 hX8 HW7
    have hma := HW8.out.x.2.1
    have hkb := HW8.out.x.2.2
    have hmr := HW8.out.x.1.2.1
    have hkr := HW8.out.x.1.2.2
    rw [HSM.out.1] at hma
    rw [HSM.out.2.1] at hkb
    refine mix_step (o := ⟨_, _, _, _, _, _⟩) rfl (fun K hK2 => ?_)
    go_simp
    refine (as18_any a b ll lk _ hma hkb).mono ?_
    rintro e w9 ⟨rfl, hb9⟩
    refine hK2.out _ _ (hS8 _ hb9) ?_
    clear hK2 K
    try simp only [Act.put, List.setIfInBounds_toArray, List.set_cons_zero, List.set_cons_succ]
    refine mix_step (o := ⟨_, _, _, _, _, _⟩) rfl (fun K hK2 => ?_)
    go_simp
    refine (as18_any _ _ ll lk _ (hmr.below hb9) (hkr.below hb9)).mono ?_
    rintro e w10 ⟨rfl, hb10⟩
    have hb10' := hb9.trans (hb10.mono hb9.size)
    refine hK2.out _ _ (hS8 _ hb10') ?_
    clear hK2 K
    try simp only [Act.put, List.setIfInBounds_toArray, List.set_cons_zero, List.set_cons_succ]
    refine mix_step (o := ⟨_, _, _, _, _, _⟩) rfl (fun K hK2 => ?_)
    go_simp
    refine (Same_same _ _ _ _ ll lk _ (hma.below hb10') (hmr.below hb10') (hkb.below hb10') (hkr.below hb10')).mono ?_
    rintro e w11 ⟨rfl, hb11⟩
    have hb11' := hb10'.trans (hb11.mono hb10'.size)
    refine hK2.out _ _ (hS8 _ hb11') ?_
    clear hK2 K
    try simp only [Act.put, List.setIfInBounds_toArray, List.set_cons_zero, List.set_cons_succ]
    have HW11 := Lib.hid (HW8.out.later (hK.thing _ _ _ _) (stB_thing _ _ _) hb11')
    have hS11 := hS8 _ hb11'
    clear hma hkb hmr hkr hb9 hb10 hb10' hb11 hb11' hS7
    by_cases hc : lc = 0
    · subst hc
      simp only [errV_zero]
      have hRu := hK.runs HW11.out.a
      rw [HSM.out.2.2.2.2 rfl] at hRu
      repeat
        first
          | (refine mix_read (o := ⟨_, _, _, _, _, _⟩) (v := ?_) rfl (by rfl) (fun w' hU => ?_) ?_
             rotate_left
             obtain ⟨j0, j1⟩ := hU
             go_simp
             with_reducible rfl
             try simp only [Act.put, List.setIfInBounds_toArray, List.set_cons_zero, List.set_cons_succ])
          | (refine mix_skip (o := ⟨_, _, _, _, _, _⟩) rfl (by rfl) ?_
             try simp only [Act.put, List.setIfInBounds_toArray, List.set_cons_zero, List.set_cons_succ])
      refine mix_step (o := ⟨_, _, _, _, _, _⟩) rfl (fun K hK2 => ?_)
      go_simp
      refine hRu.mono ?_
      rintro e w12 ⟨F12, rfl, hP12, hG12⟩
      have HW12 := Lib.hid (HW11.out.stepA (A' := fun u F => PP u F p g m3 q) (hK.thing _ _ _ _) (stB_thing _ _ _) hP12 hG12.apt hG12.new)
      refine hK2.out _ _ ⟨(HW12.out.x.1.1.cell 0).trans rfl, (HW12.out.x.1.1.cell 1).trans rfl⟩ ?_
      clear hK2 K
      try simp only [Act.put, List.setIfInBounds_toArray, List.set_cons_zero, List.set_cons_succ]
      repeat
        first
          | (refine mix_read (o := ⟨_, _, _, _, _, _⟩) (v := ?_) rfl (by rfl) (fun w' hU => ?_) ?_
             rotate_left
             obtain ⟨j0, j1⟩ := hU
             go_simp
             with_reducible rfl
             try simp only [Act.put, List.setIfInBounds_toArray, List.set_cons_zero, List.set_cons_succ])
          | (refine mix_skip (o := ⟨_, _, _, _, _, _⟩) rfl (by rfl) ?_
             try simp only [Act.put, List.setIfInBounds_toArray, List.set_cons_zero, List.set_cons_succ])
      refine mix_done ?_
      clear hRu hP12 hG12 hS11
      go_wp2_with fail
      go_meet
      case rel => exact ⟨F12, rfl, Lib.hid (HW12.out.say fun _ _ => trivial)⟩
    · have hce := errV_code hc
      rw [hce]
      repeat
        first
          | (refine mix_read (o := ⟨_, _, _, _, _, _⟩) (v := ?_) rfl (by rfl) (fun w' hU => ?_) ?_
             rotate_left
             obtain ⟨j0, j1⟩ := hU
             go_simp
             with_reducible rfl
             try simp only [Act.put, List.setIfInBounds_toArray, List.set_cons_zero, List.set_cons_succ])
          | (refine mix_skip (o := ⟨_, _, _, _, _, _⟩) rfl (by rfl) ?_
             try simp only [Act.put, List.setIfInBounds_toArray, List.set_cons_zero, List.set_cons_succ])
      refine mix_miss (o := ⟨_, _, _, _, _, _⟩) rfl (by rfl) hS11 ?_
      try simp only [Act.put, List.setIfInBounds_toArray, List.set_cons_zero, List.set_cons_succ]
      repeat
        first
          | (refine mix_read (o := ⟨_, _, _, _, _, _⟩) (v := ?_) rfl (by rfl) (fun w' hU => ?_) ?_
             rotate_left
             obtain ⟨j0, j1⟩ := hU
             go_simp
             with_reducible rfl
             try simp only [Act.put, List.setIfInBounds_toArray, List.set_cons_zero, List.set_cons_succ])
          | (refine mix_skip (o := ⟨_, _, _, _, _, _⟩) rfl (by rfl) ?_
             try simp only [Act.put, List.setIfInBounds_toArray, List.set_cons_zero, List.set_cons_succ])
      refine mix_done ?_
      go_wp2_with fail
      rw [← hce]
      go_meet
      case rel => exact ⟨F8, rfl, Lib.hid (HW11.out.say fun _ _ => trivial)⟩
  case rest =>
    obtain ⟨F7, rfl, HW7⟩ := hcut
    clear HW6
    have hR1 := hK.ros HW7.out.a HQF.out
    go_wp2_with fail
    refine hR1.mono ?_
    rintro e w8 ⟨a, b, F8, rfl, hP8, hG8, hX8⟩
    have HW8 : Hid (W2 (fun u => Mes u a ll ∧ Mks u b lk) w1 w8 (fun u F => PP u F p g m3 q) F8 (stB gy gy m) G) := Lib.hid (by
      rw [HSM.out.1, HSM.out.2.1] at hX8
      exact (HW7.out.stepA (A' := fun u F => PP u F p g m3 q) (hK.thing _ _ _ _) (stB_thing _ _ _) hP8 hG8.apt hG8.new).say (hX8.less fun x hx => by
        rcases hx with h | h
        · exact .inl (.inr h)
        · exact .inl (.inl ((stB_thing _ _ _).lt HW7.out.b x h))))
    clear hR1 hP8 hG8 hX8 HW7
    obtain ⟨Pa, ca, rfl, _, _⟩ := HW8.out.x.1.form
    obtain ⟨Pb, cb2, rfl, _, _⟩ := HW8.out.x.2.form
    have hb9 : Below w8.heap.size w8 (w8.alloc (.cells #[.slice Pa ll.length ca, .slice Pb lk.length cb2] 60)) := (Below.refl _ _).alloc (Nat.le_refl _) _
    have HW9 : Hid (W2 (fun u => Blk u w8.heap.size 60 #[.slice Pa ll.length ca, .slice Pb lk.length cb2] ∧ Mes u (.slice Pa ll.length ca) ll ∧ Mks u (.slice Pb lk.length cb2) lk) w1 (w8.alloc (.cells #[.slice Pa ll.length ca, .slice Pb lk.length cb2] 60)) (fun u F => PP u F p g m3 q) F8 (stB gy gy m) G) := Lib.hid ((HW8.out.later (hK.thing _ _ _ _) (stB_thing _ _ _) hb9).say (Keep.and (keepBlk (Blk.new w8 _ _) fun hbad => by
      have := HW8.out.bad_lt (hK.thing _ _ _ _) (stB_thing _ _ _) _ hbad
      omega) (HW8.out.later (hK.thing _ _ _ _) (stB_thing _ _ _) hb9).kx))
    clear hb9 HW8
    obtain ⟨q0, q1⟩ := HRU.out _ HW9.out.below
    go_wp2_with fail
    clear q0 q1
    revert HW9
    generalize w8.alloc (.cells #[.slice Pa ll.length ca, .slice Pb lk.length cb2] 60) = w9
    generalize w8.heap.size = g8
    intro HW9
    obtain ⟨Fs9, hPs9, hsub9, hwand9⟩ := hK.store HW9.out.a
    have hPut := stPut_any (n := mn) (b := mb) hPs9 HM3.out.1 (by omega) hmn (HBU.out _ HW9.out.below) (fun hne z hz hF => by
      have h1 := HOLD.out z hz hne
      have h2 := HW9.out.fge z (hsub9 z hF)
      have h3 := HSZ.out
      omega) (by omega)
    have HM4 : Hid ((sPut m3 mn mb).1.fine 701 ∧ Nms (sPut m3 mn mb).1) := Lib.hid ⟨HM3.out.1.put mn mb, HM3.out.2.put2 mn mb⟩
    revert hPut HM4 hwand9
    generalize (sPut m3 mn mb).1 = m4
    generalize (sPut m3 mn mb).2 = pc
    intro hwand9 hPut HM4
    refine hPut.mono ?_
    rintro e w10 ⟨rfl, F10s, hP10, hA10, hN10⟩
    obtain ⟨F10, hPP10, hG10, _⟩ := hwand9 hP10 ⟨hA10, hN10⟩
    have HW10 := Lib.hid (HW9.out.stepA (A' := fun u F => PP u F p g m4 q) (hK.thing _ _ _ _) (stB_thing _ _ _) hPP10 hG10.apt hG10.new)
    clear hPut hwand9 hPs9 hsub9 hP10 hA10 hN10 hPP10 hG10 HW9
    obtain ⟨Fs10, hPs10, hsub10, hwand10⟩ := hK.store HW10.out.a
    have hFl := sfail_any (n := fails) hPs10 hf0 hf1
    have HM5 : Hid ((failS m4 fails).fine 701 ∧ Nms (failS m4 fails)) := Lib.hid ⟨HM4.out.1.fail fails hf1, HM4.out.2⟩
    have hgF := hPs10.Fg
    go_wp2_with fail
    refine hFl.mono ?_
    rintro e w11 ⟨rfl, hP11, hgr11⟩
    obtain ⟨F11, hPP11, hG11, _⟩ := hwand10 hP11 ⟨Apt.of_grown hgr11 fun z hz => (by injection hz with hz; subst hz; exact hgF), fun z hz => .inl hz⟩
    have HW11 := Lib.hid (HW10.out.stepA (A' := fun u F => PP u F p g (failS m4 fails) q) (hK.thing _ _ _ _) (stB_thing _ _ _) hPP11 hG11.apt hG11.new)
    clear hFl hwand10 hPs10 hsub10 hP11 hgr11 hPP11 hG11 HW10 hgF HM4
    revert HM5 HW11
    generalize failS m4 fails = m5
    intro HM5 HW11
    have hPo := hK.poll HW11.out.a HM5.out.1 HM5.out.2 (by omega) HSM.out.2.2.1 HQF.out (by have := HSM.out.2.2.2.1; omega) (Keep.of_old HLU.out HW11.out.below HW11.out.fge)
    go_wp2_with fail
    refine hPo.mono ?_
    rintro e w12 ⟨F12, q2, rfl, hP12, hDn, hqf, hG12⟩
    have HW12 := Lib.hid (HW11.out.stepA (A' := fun u F => PP u F p g (liR m5).2 q2) (hK.thing _ _ _ _) (stB_thing _ _ _) hP12 hG12.apt hG12.new)
    have HQ2 := Lib.hid hqf
    have HLC2 := Lib.hid (liR_code18 m5)
    have HSM2 : Hid ((liR m5).1.1 ≠ 0 → q2.rl = ll ∧ q2.rk = lk) := Lib.hid fun hne => by
      have h1 := hDn.no hne
      exact ⟨h1.1.trans HSM.out.1, h1.2.1.trans HSM.out.2.1⟩
    clear hPo hP12 hDn hqf hG12 HW11
    revert HLC2 HSM2 HW12
    generalize (liR m5).2 = m6
    generalize (liR m5).1.1 = mc
    intro HW12 HLC2 HSM2
    go_wp2_with fail
    have HW13 := Lib.hid (HW12.out.later (hK.thing _ _ _ _) (stB_thing _ _ _) (Below.refl w12.heap.size w12).drew)
    have hS13 : w12.drew.cell? ⟨g8, 0, none⟩ = some (.slice Pa ll.length ca) ∧ w12.drew.cell? ⟨g8, 1, none⟩ = some (.slice Pb lk.length cb2) := ⟨(HW13.out.x.1.cell 0).trans rfl, (HW13.out.x.1.cell 1).trans rfl⟩
    clear HW12
    by_cases hc : mc = 0
    · subst hc
      simp only [errV_zero]
      refine wp_region_mix [(0, false), (1, false), (2, false), (3, false), (4, false), (5, false), (8, false), (6, true), (7, true), (9, true), (10, true), (11, false), (12, false), (13, false)] (fun u => u.cell? ⟨g8, 0, none⟩ = some (.slice Pa ll.length ca) ∧ u.cell? ⟨g8, 1, none⟩ = some (.slice Pb lk.length cb2)) (by kernel_rfl) (by kernel_rfl) (by decide +kernel) rfl hS13 ?_
      repeat
        first
          | (refine mix_read (o := ⟨_, _, _, _, _, _⟩) (v := ?_) rfl (by rfl) (fun w' hU => ?_) ?_
             rotate_left
             obtain ⟨j0, j1⟩ := hU
             go_simp
             with_reducible rfl
             try simp only [Act.put, List.setIfInBounds_toArray, List.set_cons_zero, List.set_cons_succ])
          | (refine mix_skip (o := ⟨_, _, _, _, _, _⟩) rfl (by rfl) ?_
             try simp only [Act.put, List.setIfInBounds_toArray, List.set_cons_zero, List.set_cons_succ])
      refine mix_miss (o := ⟨_, _, _, _, _, _⟩) rfl (by rfl) hS13 ?_
      try simp only [Act.put, List.setIfInBounds_toArray, List.set_cons_zero, List.set_cons_succ]
      refine mix_miss (o := ⟨_, _, _, _, _, _⟩) rfl (by rfl) hS13 ?_
      try simp only [Act.put, List.setIfInBounds_toArray, List.set_cons_zero, List.set_cons_succ]
      refine mix_miss (o := ⟨_, _, _, _, _, _⟩) rfl (by rfl) hS13 ?_
      try simp only [Act.put, List.setIfInBounds_toArray, List.set_cons_zero, List.set_cons_succ]
      refine mix_miss (o := ⟨_, _, _, _, _, _⟩) rfl (by rfl) hS13 ?_
      try simp only [Act.put, List.setIfInBounds_toArray, List.set_cons_zero, List.set_cons_succ]
      repeat
        first
          | (refine mix_read (o := ⟨_, _, _, _, _, _⟩) (v := ?_) rfl (by rfl) (fun w' hU => ?_) ?_
             rotate_left
             obtain ⟨j0, j1⟩ := hU
             go_simp
             with_reducible rfl
             try simp only [Act.put, List.setIfInBounds_toArray, List.set_cons_zero, List.set_cons_succ])
          | (refine mix_skip (o := ⟨_, _, _, _, _, _⟩) rfl (by rfl) ?_
             try simp only [Act.put, List.setIfInBounds_toArray, List.set_cons_zero, List.set_cons_succ])
      refine mix_done ?_
      go_wp2_with fail
      go_ret
      exact ⟨rfl, HFIN.out _ HW13.out.below⟩
    · have hce := errV_code hc
      rw [hce]
      have hRo := hK.ros HW13.out.a HQ2.out
      refine wp_region_mix [(0, false), (1, false), (2, false), (3, false), (4, false), (5, false), (8, false), (6, true), (7, true), (9, true), (10, true), (11, false), (12, false), (13, false)] (fun u => u.cell? ⟨g8, 0, none⟩ = some (.slice Pa ll.length ca) ∧ u.cell? ⟨g8, 1, none⟩ = some (.slice Pb lk.length cb2)) (by kernel_rfl) (by kernel_rfl) (by decide +kernel) rfl hS13 ?_
      repeat
        first
          | (refine mix_read (o := ⟨_, _, _, _, _, _⟩) (v := ?_) rfl (by rfl) (fun w' hU => ?_) ?_
             rotate_left
             obtain ⟨j0, j1⟩ := hU
             go_simp
             with_reducible rfl
             try simp only [Act.put, List.setIfInBounds_toArray, List.set_cons_zero, List.set_cons_succ])
          | (refine mix_skip (o := ⟨_, _, _, _, _, _⟩) rfl (by rfl) ?_
             try simp only [Act.put, List.setIfInBounds_toArray, List.set_cons_zero, List.set_cons_succ])
      refine mix_step (o := ⟨_, _, _, _, _, _⟩) rfl (fun K hK2 => ?_)
      go_simp
      refine hRo.mono ?_
      rintro e w14 ⟨a, b, F14, rfl, hP14, hG14, hX14⟩
      have HW14 : Hid (W2 (fun u => (Blk u g8 60 #[(.slice Pa ll.length ca), (.slice Pb lk.length cb2)] ∧ Mes u (.slice Pa ll.length ca) ll ∧ Mks u (.slice Pb lk.length cb2) lk) ∧ Mes u a q2.rl ∧ Mks u b q2.rk) w1 w14 (fun u F => PP u F p g m6 q2) F14 (stB gy gy m) G) := Lib.hid (by
        have h1 := HW13.out.stepA (A' := fun u F => PP u F p g m6 q2) (hK.thing _ _ _ _) (stB_thing _ _ _) hP14 hG14.apt hG14.new
        exact h1.say (Keep.and h1.kx (hX14.less fun x hx => by
          rcases hx with h | h
          · exact .inl (.inr h)
          · exact .inl (.inl ((stB_thing _ _ _).lt HW13.out.b x h)))))
      have hS14 : ∀ u, Below w14.heap.size w14 u → u.cell? ⟨g8, 0, none⟩ = some (.slice Pa ll.length ca) ∧ u.cell? ⟨g8, 1, none⟩ = some (.slice Pb lk.length cb2) := fun u hu => by
        have hb := HW14.out.x.1.1
        exact ⟨((hb.below hu hb.lt).cell 0).trans rfl, ((hb.below hu hb.lt).cell 1).trans rfl⟩
      refine hK2.out _ _ (hS14 _ (Below.refl _ _)) ?_
      clear hK2 K
      try simp only [Act.put, List.setIfInBounds_toArray, List.set_cons_zero, List.set_cons_succ]
      clear hRo hP14 hG14 hX14 HW13
      have hma := HW14.out.x.2.1
      have hkb := HW14.out.x.2.2
      have hmr := HW14.out.x.1.2.1
      have hkr := HW14.out.x.1.2.2
      rw [(HSM2.out hc).1] at hma
      rw [(HSM2.out hc).2] at hkb
      refine mix_step (o := ⟨_, _, _, _, _, _⟩) rfl (fun K hK2 => ?_)
      go_simp
      refine (as18_any a b ll lk _ hma hkb).mono ?_
      rintro e w15 ⟨rfl, hb15⟩
      refine hK2.out _ _ (hS14 _ hb15) ?_
      clear hK2 K
      try simp only [Act.put, List.setIfInBounds_toArray, List.set_cons_zero, List.set_cons_succ]
      refine mix_step (o := ⟨_, _, _, _, _, _⟩) rfl (fun K hK2 => ?_)
      go_simp
      refine (as18_any _ _ ll lk _ (hmr.below hb15) (hkr.below hb15)).mono ?_
      rintro e w16 ⟨rfl, hb16⟩
      have hb16' := hb15.trans (hb16.mono hb15.size)
      refine hK2.out _ _ (hS14 _ hb16') ?_
      clear hK2 K
      try simp only [Act.put, List.setIfInBounds_toArray, List.set_cons_zero, List.set_cons_succ]
      refine mix_step (o := ⟨_, _, _, _, _, _⟩) rfl (fun K hK2 => ?_)
      go_simp
      refine (Same_same _ _ _ _ ll lk _ (hma.below hb16') (hmr.below hb16') (hkb.below hb16') (hkr.below hb16')).mono ?_
      rintro e w17 ⟨rfl, hb17⟩
      have hb17' := hb16'.trans (hb17.mono hb16'.size)
      refine hK2.out _ _ (hS14 _ hb17') ?_
      clear hK2 K
      try simp only [Act.put, List.setIfInBounds_toArray, List.set_cons_zero, List.set_cons_succ]
      have HW17 := Lib.hid (HW14.out.later (hK.thing _ _ _ _) (stB_thing _ _ _) hb17')
      repeat
        first
          | (refine mix_read (o := ⟨_, _, _, _, _, _⟩) (v := ?_) rfl (by rfl) (fun w' hU => ?_) ?_
             rotate_left
             obtain ⟨j0, j1⟩ := hU
             go_simp
             with_reducible rfl
             try simp only [Act.put, List.setIfInBounds_toArray, List.set_cons_zero, List.set_cons_succ])
          | (refine mix_skip (o := ⟨_, _, _, _, _, _⟩) rfl (by rfl) ?_
             try simp only [Act.put, List.setIfInBounds_toArray, List.set_cons_zero, List.set_cons_succ])
      refine mix_done ?_
      go_wp2_with fail
      go_ret
      exact ⟨rfl, HFIN.out _ HW17.out.below⟩

end Go.Proofs.YtgafidnbmoomiaaGreatDoor

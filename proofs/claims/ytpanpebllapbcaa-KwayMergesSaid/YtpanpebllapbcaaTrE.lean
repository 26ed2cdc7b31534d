/-
  CONTRACTS of trace.leastOnes, trace.Gather, slices.Grow and slices.Concat at spans, trace.Merge, trace.Of. Conditions: at most 100000000 spans, Data of at most 1000000 bytes.
-/
import Derived.Test.YtpanpebllapbcaaTrD
import Derived.Lib.AppendZerosOnto
import Derived.Lib.AppendZeros
namespace Go.Proofs.Ytpanpebllapbcaa
open Go.RowKit
set_option maxRecDepth 100000


/-- those that count, side by side -/
def Lst (l r : List Sn) : Prop := ∃ d : List Sn, d.Perm l ∧ (d.Pairwise fun a b => cmpW a b ≤ 0) ∧ r = dedL d
theorem Lst.len {l r : List Sn} (h : Lst l r) : r.length ≤ l.length := by
  obtain ⟨d, h1, _, rfl⟩ := h
  have := (dedL_sub d).length_le
  have := h1.length_eq
  omega
theorem Lst.sub {l r : List Sn} (h : Lst l r) : ∀ s ∈ r, s ∈ l := by
  obtain ⟨d, h1, _, rfl⟩ := h
  exact fun s hs => h1.mem_iff.1 ((dedL_sub d).subset hs)
theorem Gat.sub {l r : List Sn} (h : Gat l r) : ∀ s ∈ r, s ∈ l := fun s hs => ((h.mem s).1 hs).1
theorem Gat.nodup {l r : List Sn} (h : Gat l r) : r.Nodup := h.up.imp fun {a b} hab e => by
  subst e
  have := three_cmpS.rf a
  omega
theorem nodup_le : ∀ {r l : List Sn}, r.Nodup → (∀ s ∈ r, s ∈ l) → r.length ≤ l.length
  | [], l, _, _ => by simp
  | a :: r, l, hn, hs => by
    rw [List.nodup_cons] at hn
    have ha := hs a (List.mem_cons_self ..)
    obtain ⟨p, q, rfl⟩ := List.append_of_mem ha
    have ih := nodup_le (r := r) (l := p ++ q) hn.2 fun s h => by
      have := hs s (List.mem_cons_of_mem _ h)
      rcases List.mem_append.1 this with h1 | h1
      · exact List.mem_append_left _ h1
      · rcases List.mem_cons.1 h1 with h2 | h2
        · subst h2; exact absurd h hn.1
        · exact List.mem_append_right _ h2
    simp only [List.length_append, List.length_cons] at ih ⊢
    omega
theorem Gat.len {l r : List Sn} (h : Gat l r) : r.length ≤ l.length := nodup_le h.nodup h.sub

theorem below_own {base : Nat} {w w' w'' : World} (hB : Below base w w') {v : Value} (hg : w'.grownBy w'' v.ownBlock) (hb : base ≤ w'.heap.size) (hv : ∀ k, v.ownBlock = some k → base ≤ k) : Below base w w'' := hB.grown hg hb hv

theorem enters_whole (args : Array Value) (w : World) : (callFunc 54 args).run Try.prog w = .ok (.enter 54 args) w := enters_of Try.func54 (by kernel_rfl) rfl args w

theorem enters_compare (args : Array Value) (w : World) : (callFunc 41 args).run Try.prog w = .ok (.enter 41 args) w := enters_of Try.func41 (by kernel_rfl) rfl args w

set_option maxHeartbeats 800000 in
theorem least_any (v : Value) (l : List Sn) (w : World) (h : Ss w v l) (hl : l.length ≤ 100000000) :
    Calls Try.prog 39 #[v] w fun e w' => ∃ v' r, e = .returned v' ∧ Own5 w' w.heap.size v' r ∧ Lst l r ∧ Below w.heap.size w w' := by
  go_enter Try.func39, Try.ntmps39
  go_wp2_with fail
  refine (sclone_any v l _ (by omega) h).mono ?_
  rintro e w1 ⟨v1, rfl, ho1, hb1⟩
  go_wp2_with fail
  refine (sort_any 54 cmpW three_cmpW enters_whole whole_only v1 l _ _ ho1 (by omega)).mono ?_
  rintro e w2 ⟨rfl, d, hp, hs, ho2, hg2⟩
  have hb2 := hb1.grown hg2 hb1.size (fun k hk => (ho1.lt k hk).1)
  go_wp2_with fail
  refine (compact_any v1 d _ _ ho2 (by have := hp.length_eq; omega)).mono ?_
  rintro e w3 ⟨v3, rfl, ho3, hg3, hv3⟩
  have hb3 := hb2.grown hg3 hb2.size (fun k hk => (ho2.lt k hk).1)
  go_wp2_with fail
  go_ret
  exact ⟨_, _, rfl, ho3, ⟨d, hp, hs, rfl⟩, hb3⟩

set_option maxHeartbeats 800000 in
theorem gather_any (v : Value) (l : List Sn) (w : World) (h : Ss w v l) (hl : l.length ≤ 100000000) (hd : ∀ s ∈ l, s.data.length ≤ 1000000) :
    Calls Try.prog 20 #[v] w fun e w' => ∃ v' r, e = .returned v' ∧ Own5 w' w.heap.size v' r ∧ Gat l r ∧ Below w.heap.size w w' := by
  go_enter Try.func20, Try.ntmps20
  go_wp2_with fail
  refine (least_any v l _ h hl).mono ?_
  rintro e w1 ⟨v1, r1, rfl, ho1, hL, hb1⟩
  have hrl := hL.len
  go_wp2_with fail
  refine (sort_any 41 cmpS three_cmpS enters_compare compare_only v1 r1 _ _ ho1 (by omega)).mono ?_
  rintro e w2 ⟨rfl, r, hp, hs, ho2, hg2⟩
  have hb2 := hb1.grown hg2 hb1.size (fun k hk => (ho1.lt k hk).1)
  go_wp2_with fail
  refine (apart_any v1 r _ _ ho2 (by have := hp.length_eq; omega) (fun s hs' => hd s (hL.sub s (hp.mem_iff.1 hs')))).mono ?_
  rintro e w3 ⟨rfl, ho3, hg3⟩
  have hb3 := hb2.grown hg3 hb2.size (fun k hk => (ho2.lt k hk).1)
  go_wp2_with fail
  go_ret
  refine ⟨_, _, rfl, ho3, ?_, hb3⟩
  obtain ⟨d, hp1, hs1, rfl⟩ := hL
  exact Gat.made hp1 hs1 hp hs

/-- a literal of one span, its Data older than the call -/
theorem Sf.lit {w0 W : World} (hB : Below w0.heap.size w0 W) {s : Sn} {d : Value} (hok : s.ok) (hd : Bs w0 d s.data) {H : Nat} (hH : W.heap.size = H) {row : Option Nat} (hr : ∀ g, row = some g → w0.heap.size ≤ g) :
    Sf (W.alloc (.cells #[.int .u64 s.tr, .int .u64 s.id, .int .i64 s.st, .int .i64 s.en, d] 51)) row (.slice (some ⟨H, 0, none⟩) 1 1) [s] := by
  subst hH
  refine ⟨[spCells s d], Lv.lit1 (w := W) (spCells s d) 51, ?_⟩
  refine Two.nil.snoc (l := []) (m := []) ⟨hok, d, rfl, (hd.below hB).alloc _, fun hne e => ?_⟩
  obtain ⟨k, hk, hk'⟩ := hd.block hne
  rw [hk] at e
  have := hr k e.symm
  omega

end Go.Proofs.Ytpanpebllapbcaa

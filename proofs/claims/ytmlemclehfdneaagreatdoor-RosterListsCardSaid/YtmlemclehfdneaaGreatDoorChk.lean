/-
  CONTRACTS of slices.Chunk at bytes: the sequence, and what its iterator yields. Conditions: what each says.
-/
import Derived.Test.YtmlemclehfdneaaGreatDoorRng
import Derived.Test.YtmlemclehfdneaaGreatDoorWordA
import Derived.Test.YtmlemclehfdneaaGreatDoorMore
import Derived.Lib.MinMax
import Derived.RangeFuncCalls
import Derived.OwnWalkIn
import Derived.TacticsInMore
import Derived.WalkKit
import Derived.Deep.LoopGhost
import Derived.Sort.QuietIn
import Derived.Deep.QuietTactic
import Derived.BigQuiet
import Derived.WalkSpells
namespace Go.Proofs.YtmlemclehfdneaaGreatDoor
open Go.RowKit
set_option maxRecDepth 100000

set_option maxHeartbeats 1600000 in
theorem chunk_any (A : Option Addr) (m c : Nat) (n : Nat) (hn : 1 ≤ n) (hn2 : n ≤ 1000000) (w : World) :
    Calls Tryz.prog 110 #[.slice A m c, .int .i64 (n : Int)] w fun e w' => e = .returned (.func (.func 133) #[] #[.pointer (some ⟨w.heap.size, 0, none⟩), .pointer (some ⟨w.heap.size + 1, 0, none⟩)]) ∧ Blk w' w.heap.size 54 #[.slice A m c] ∧ Blk w' (w.heap.size + 1) 3 #[.int .i64 (n : Int)] ∧ Below w.heap.size w w' := by
  have hmf : ∀ (fn : Fn) (first cap : Array Value) (w : World), (Instr.makeFunc fn first cap).run Tryz.prog w = .ok (.func fn first cap) w := fun _ _ _ _ => rfl
  have hd : decide ((n : Int) < 1) = false := decide_eq_false (by omega)
  have hb : Below w.heap.size w ((w.alloc (.cells #[.slice A m c] 54)).alloc (.cells #[.int .i64 (n : Int)] 3)) := ((Below.refl _ _).alloc (Nat.le_refl _) _).alloc (by simp) _
  have h1 : Blk ((w.alloc (.cells #[.slice A m c] 54)).alloc (.cells #[.int .i64 (n : Int)] 3)) w.heap.size 54 #[.slice A m c] := (Blk.new w _ _).alloc _
  have h2 : Blk ((w.alloc (.cells #[.slice A m c] 54)).alloc (.cells #[.int .i64 (n : Int)] 3)) (w.heap.size + 1) 3 #[.int .i64 (n : Int)] := by
    have := Blk.new (w.alloc (.cells #[.slice A m c] 54)) 3 #[.int .i64 (n : Int)]
    simpa using this
  have H := Lib.hid (And.intro h1 (And.intro h2 hb))
  clear h1 h2 hb
  go_enter Tryz.func110, Tryz.ntmps110
  go_wp2_with fail
  go_ret
  exact ⟨rfl, H.out.1, H.out.2.1, H.out.2.2⟩

theorem slice_bytes3 {P : Program} {t e : TypeId} (HT : ByteT P t e) (he : P.elem t = e) {w : World} {A : Option Addr} {c : Nat} {l : List UInt8} (hr : Rd w A (BV l)) (h2 : l.length ≤ c) (h3 : c ≤ 9223372036854775807) (lo hi : Nat) (h0 : lo ≤ hi) (h1 : hi ≤ l.length) :
    ∃ V, (∀ u : World, (Instr.slice t (.slice A l.length c) (some (.int .i64 (lo : Int))) (some (.int .i64 (hi : Int))) (some (.int .i64 (hi : Int)))).run P u = .ok V u) ∧ Bs w V ((l.drop lo).take (hi - lo)) := by
  obtain ⟨i, hi', hz, hs, hb⟩ := HT.info
  refine ⟨.slice (if hi = lo then A else A.map (·.add lo)) (hi - lo) (hi - lo), fun u => ?_, ?_⟩
  · rw [run_slice_lhm (P := P) (w := u) (t := t) (a := A) (len := l.length) (cap := c) (ht := by rw [he]; exact HT.under) .i64 .i64 .i64 lo hi hi (by omega) (by omega) (by omega) (by omega)]
    simp [sizeOf, typeInfo, he, hi', hs, sliced]
  · have h := Bs.cut (c := hi) (p := lo) (k := hi - lo) (l := l.take hi) (w := w) (A := A) (by
      intro j x hx
      refine hr j x ?_
      rw [BV_getElem?] at hx ⊢
      rw [List.getElem?_take] at hx
      split at hx
      · exact hx
      · cases hx) (by rw [List.length_take]; omega) (by rw [List.length_take]; omega) (by omega) (if hi = lo then A else A.map (·.add lo)) (by
      intro a ha hk
      subst ha
      rw [if_neg (by omega)]
      rfl)
    have e : ((l.take hi).drop lo).take (hi - lo) = (l.drop lo).take (hi - lo) := by
      rw [List.drop_take, List.take_take, Nat.min_self]
    rw [e] at h
    exact h

set_option maxHeartbeats 6400000 in
theorem chunk_seq {w : World} {b n k : Nat} {v : Value} {x : List UInt8} (hx : x.length = n * k) (hk : 1 ≤ k) (hxl : x.length ≤ 100000000000) (l : Nat) (J : Nat → World → Prop) (Jx : World → Prop)
    (hJ : ∀ i W, J i W → Blk W b 54 #[v] ∧ Blk W (b + 1) 3 #[.int .i64 (k : Int)] ∧ Bs W v x) (hJd : ∀ i W m, J i W → J i (W.drewN m))
    (hY : ∀ i d W, i < n → J i W → Bs W d ((x.drop (k * i)).take k) → YieldAt Fence.wide 1 Tryz.prog l #[d] W fun e W' => (e = .returned (.bool true) ∧ J (i + 1) W') ∨ (e = .returned (.bool false) ∧ Jx W')) (h0 : J 0 w) :
    Calls Tryz.prog 133 #[.func (.yield l) #[] #[], .pointer (some ⟨b, 0, none⟩), .pointer (some ⟨b + 1, 0, none⟩)] w fun e W' => (∃ r, e = .returned r) ∧ (J n W' ∨ Jx W') := by
  have HJ := Lib.hid hJ
  have HJD := Lib.hid hJd
  have HY := Lib.hid hY
  have H0 := Lib.hid h0
  have HX := Lib.hid hx
  obtain ⟨A, c, rfl, hc1, hc2, _⟩ := (hJ 0 w h0).2.2
  obtain ⟨L, hL⟩ : ∃ L, L = x.length := ⟨_, rfl⟩
  have HL := Lib.hid hL
  rw [← hL] at hxl hc1
  have HLn : Hid (L = n * k) := Lib.hid (by omega)
  rw [← hL] at HJ
  clear hJ hJd hY h0 hx
  go_enter Tryz.func133, Tryz.ntmps133
  go_wp2_with fail
  go_loopg [4] n (fun gk iv wr => ∃ i p : Nat, i + gk = n ∧ p = k * i ∧ iv = .int .i64 (p : Int) ∧ Hid (J i wr))
  case atStart => exact ⟨0, 0, by omega, by simp, rfl, H0⟩
  case round =>
    obtain ⟨i, p, hi, hp, rfl, HW⟩ := hrel
    clear H0
    obtain ⟨q1, q2, q3⟩ := HJ.out i wr HW.out
    have b0 := q1.cell 0
    have b1 := q2.cell 0
    simp at b0 b1
    refine (wpIn_wide (n := 2)).1 ?_
    have hsem := @Oper.semAt_some
    by_cases hlt : i < n
    · obtain ⟨gk1, hgk1⟩ : ∃ z, gk = z + 1 := ⟨gk - 1, by omega⟩
      have hle : p + k ≤ L := by
        rw [HLn.out, hp, ← Nat.mul_succ, Nat.mul_comm n k]
        exact Nat.mul_le_mul_left k hlt
      have HP : Hid (p = k * i ∧ p + k = k * (i + 1)) := Lib.hid ⟨hp, by rw [hp, Nat.mul_succ]⟩
      have hd : decide ((p : Int) < (L : Int)) = true := decide_eq_true (by omega)
      obtain ⟨A', c', e', h1', h2', hr'⟩ := q3
      rw [← hL] at e' h1'
      injection e' with e1 e2 e3
      subst e1 e3
      obtain ⟨V, hsV, hV, _⟩ := slice_bytes_from (P := Tryz.prog) wr byteT elemB hr' (by omega) h2' p (by omega) (p : Int) rfl
      obtain ⟨V3, hs3, hV3⟩ := slice_bytes3 (P := Tryz.prog) byteT elemB hr' (by omega) h2' p (p + k) (by omega) (by omega)
      rw [← hL] at hsV hs3
      rw [show p + k - p = k by omega] at hV3
      obtain ⟨A2, c2, rfl, _, _, _⟩ := hV
      obtain ⟨M, hM⟩ : ∃ M, M = (x.drop p).length := ⟨_, rfl⟩
      rw [← hM] at hsV
      have hM2 : M = L - p := by rw [hM, List.length_drop, hL]
      have hmin : min (k : Int) (M : Int) = (k : Int) := by omega
      have hwr : IntKind.i64.wrap ((p : Int) + (k : Int)) = (p : Int) + (k : Int) := IntWalk.i64_in _ (by omega)
      simp only [Int.natCast_add] at hs3
      have HV3 := Lib.hid hV3
      have hp0 : (0 : Int) ≤ (p : Int) := by omega
      have hpL : (p : Int) < (L : Int) := by omega
      clear e2 q1 q2 hM hM2 hV3 hr' hp hL
      gi_wp2_with fail
      gi_quiet (fail)
      have hJq := HJD.out i wr nq HW.out
      obtain ⟨f1, t1, y1, y2, hy, hR⟩ := HY.out i V3 (wr.drewN nq) hlt hJq (by rw [← HP.out.1]; exact HV3.out.drewN nq)
      clear HW b1 hsV
      gi_wp2_with fail
      refine hR.mono ?_
      rintro e W' (⟨rfl, hJ2⟩ | ⟨rfl, hJx⟩)
      · have HW2 := Lib.hid hJ2
        obtain ⟨_, q2, _⟩ := HJ.out _ W' hJ2
        have b1 := q2.cell 0
        simp at b1
        clear hJ2 hR hy hJq q2
        gi_wp2_with fail
        go_roundg gk1
        case measure => omega
        case rel => exact ⟨i + 1, p + k, by omega, HP.out.2, by go_num, HW2⟩
      · have HW2 := Lib.hid hJx
        clear hJx hR hy hJq
        gi_wp2_with fail
        refine bodyPost_ret (results_none rfl _ _ _) rfl ?_
        exact ⟨⟨_, rfl⟩, .inr HW2.out⟩
    · have hin : i = n := by omega
      subst hin
      have hpL : p = L := by rw [hp, HLn.out, Nat.mul_comm]
      subst hpL
      have HW2 := Lib.hid HW.out
      have hd : decide ((p : Int) < (p : Int)) = false := by simp
      clear hp q1 q2 q3 HW
      gi_wp2_with fail
      exact ⟨rfl, _, results_none rfl _ _ _, ⟨_, rfl⟩, .inl HW2.out⟩

end Go.Proofs.YtmlemclehfdneaaGreatDoor

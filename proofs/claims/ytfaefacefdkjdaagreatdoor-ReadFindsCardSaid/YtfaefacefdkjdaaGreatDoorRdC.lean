/-
  OF WHAT WAS WRITTEN all is read, and each trace found: plain, over what the document's Meta, Find, All tell of a store. No condition but what each theorem says.
  OF WHAT WAS ALTERED nothing is read but an error, or what was written: plain. No condition but what each theorem says.
  ReadFinds: plain: what Find leaves of a store.
-/
import Derived.Test.YtfaefacefdkjdaaGreatDoorRdA
import Derived.Test.YtfaefacefdkjdaaGreatDoorBkP
namespace Go.Proofs.YtfaefacefdkjdaaGreatDoor
open Go.RowKit
set_option maxRecDepth 100000

theorem pgX_put {p : List Tn} (h : ValP p) : pgX (pgOf p) = (0, p) := by
  have h4 : ¬ (pgOf p).length < 4 := by rw [pgOf, sealedOf_length]; omega
  obtain ⟨m, e, hv, hb⟩ := pgX_yes (x := pgOf p) h4 (tail_sealed _) ⟨p, h, (body_sealed _).symm⟩
  rw [e, pg_inj encS_inj hv h (hb.trans (body_sealed _))]
structure HasAll (m : Sm) (id : Nat) (l : List Tn) (s : Sz) : Prop where
  bk : HasBk m id (bkMe id 0 l s) (pagesOf l s)
  ix : ∃ o, fnd (nmOf id [105] 0) m.l = some o ∧ o.b = bkIx (pagesOf l s)
  fl : ∃ o, fnd (nmOf id [102] 0) m.l = some o ∧ o.b = (bkFl l s).bytes
  ok0 : (Bl.new s.sh.toNat s.bi.toNat s.hs.toNat).Ok
  ids : ∀ t ∈ l, 0 ≤ t.id ∧ t.id ≤ 18446744073709551615
theorem HasAll.same {m m' : Sm} {id : Nat} {l : List Tn} {s : Sz} (h : HasAll m id l s) (e : m'.l = m.l) : HasAll m' id l s :=
  ⟨h.bk.same e, by rw [e]; exact h.ix, by rw [e]; exact h.fl, h.ok0, h.ids⟩
theorem HasAll.ok {m : Sm} {id : Nat} {l : List Tn} {s : Sz} (h : HasAll m id l s) : (bkFl l s).Ok := h.ok0.adds _
theorem HasAll.flat {m : Sm} {id : Nat} {l : List Tn} {s : Sz} (h : HasAll m id l s) : IsT l := by
  have := h.bk.is
  rwa [pages_flat] at this
theorem HasAll.meta {m : Sm} {id : Nat} {l : List Tn} {s : Sz} (h : HasAll m id l s) (hl : m.left = -1) : meR m id = (0, bkMe id 0 l s) := by
  obtain ⟨o, h1, h2⟩ := h.bk.me
  rw [meR, sGet_fnd (left_call hl).1 h1]
  simp only [h2]
  rw [if_neg (by simp), meX_put _ h.bk.mb h.bk.mo, if_neg (by simp), if_pos h.bk.mi]
theorem HasAll.page {m : Sm} {id : Nat} {l : List Tn} {s : Sz} (h : HasAll m id l s) (hl : m.left = -1) {i : Nat} {p : List Tn} (hp : (pagesOf l s)[i]? = some p) : pgR m id i = (0, p) := by
  obtain ⟨o, h1, h2, hv, _⟩ := h.bk.pages i p hp
  rw [pgR, sGet_fnd (left_call hl).1 h1]
  simp only [h2]
  rw [if_neg (by simp), pgX_put hv]
theorem HasAll.rd {id : Nat} {l : List Tn} {s : Sz} : ∀ (n k : Nat) (m : Sm), HasAll m id l s → m.left = -1 → k + n = (pagesOf l s).length → (rdA id n k m ((pagesOf l s).take k).flatten).1 = (0, l) ∧ (rdA id n k m ((pagesOf l s).take k).flatten).2.l = m.l
  | 0, k, m, h, hl, hk => by
    rw [rdA, List.take_of_length_le (by omega), pages_flat]
    exact ⟨rfl, rfl⟩
  | n + 1, k, m, h, hl, hk => by
    obtain ⟨p, hp⟩ : ∃ p, (pagesOf l s)[k]? = some p := ⟨_, List.getElem?_eq_getElem (by omega)⟩
    have e := h.page hl hp
    rw [rdA_on (by rw [e]), e]
    simp only
    rw [← take_flat hp]
    exact HasAll.rd n (k + 1) (callS m) (h.same rfl) (left_call hl).2 (by omega)
theorem HasAll.all {m : Sm} {id : Nat} {l : List Tn} {s : Sz} (h : HasAll m id l s) (hl : m.left = -1) : (alR m id).1 = (0, l) := by
  have e := h.meta hl
  have hr := HasAll.rd (pagesOf l s).length 0 (callS m) (h.same rfl) (left_call hl).2 (by omega)
  have hn : (bkMe id 0 l s).pg.toNat = (pagesOf l s).length := by rw [h.bk.mp]; rfl
  rw [List.take_zero, List.flatten_nil] at hr
  unfold alR
  rw [e]
  simp only [hn]
  rw [if_neg (by simp), hr.1, if_neg (by simp), if_pos ⟨isB_true h.flat, by rw [h.bk.mt, pages_flat]⟩, hr.1]

theorem spOf_mem {l : List Tn} (h : IsT l) {t : Tn} {tr : Nat} (ht : t ∈ l) (hid : t.id = (tr : Int)) : spOf tr l = t.sp := by
  obtain ⟨k, hk⟩ := List.getElem?_of_mem ht
  refine spOf_at hk hid fun x hx e => ?_
  have hp := ids_pairwise h.up
  obtain ⟨j, hj⟩ := List.getElem?_of_mem hx
  obtain ⟨hjl, hj2⟩ := List.getElem?_eq_some_iff.1 hj
  rw [List.length_take] at hjl
  rw [List.getElem_take] at hj2
  obtain ⟨hkl, hk2⟩ := List.getElem?_eq_some_iff.1 hk
  have := (List.pairwise_iff_getElem.1 hp) j k (by omega) hkl (by omega)
  rw [hj2, hk2, e, hid] at this
  omega
theorem HasAll.find {m : Sm} {id tr : Nat} {l : List Tn} {s : Sz} (h : HasAll m id l s) (hl : m.left = -1) : (fiR m id tr).1 = (0, spOf tr l) := by
  have hT := h.flat
  have hps : pagesB (pagesOf l s) = true := pages_ok hT s h.bk.few
  have hP := pagesB_pgs hps
  have hmem : ∀ r ∈ pagesOf l s, ∀ t ∈ r, t ∈ l := fun r hr t ht => by
    rw [← pages_flat l s]
    exact List.mem_flatten.2 ⟨r, hr, ht⟩
  have h0 : ∀ r ∈ pagesOf l s, ∀ t ∈ r, 0 ≤ t.id := fun r hr t ht => (h.ids t (hmem r hr t ht)).1
  have h1 : ∀ r ∈ pagesOf l s, ∀ t ∈ r, t.id ≤ 18446744073709551615 := fun r hr t ht => (h.ids t (hmem r hr t ht)).2
  obtain ⟨of, f1, f2⟩ := h.fl
  obtain ⟨oi, i1, i2⟩ := h.ix
  have hl1 := (left_call hl).2
  have hl2 := (left_call hl1).2
  rw [fiR, sGet_fnd (left_call hl).1 f1]
  simp only [f2]
  rw [if_neg (by simp), h.ok.getX]
  simp only
  by_cases hh : (bkFl l s).has tr = true
  · rw [if_pos hh, fiI, sGet_fnd (left_call hl1).1 (show fnd (nmOf id [105] 0) (callS m).l = some oi from i1)]
    simp only [i2]
    rw [if_neg (by simp), bkIx, ixX_put _ (Pgs.bound h1) (hP.ix h0), if_neg (by simp), fiP]
    by_cases hk : atX ((pagesOf l s).map firstId) tr < 0
    · rw [if_pos hk]
      refine congrArg (fun z => ((0 : Int), z)) (spOf_none fun t ht e => ?_).symm
      rw [← pages_flat l s] at ht
      obtain ⟨r, hr, htr⟩ := List.mem_flatten.1 ht
      obtain ⟨i, hi⟩ := List.getElem?_of_mem hr
      have := hP.at_ h0 hi htr
      rw [e, Int.toNat_natCast] at this
      rw [atX_of this] at hk
      omega
    · rw [if_neg hk]
      have hex : ∃ k, IsAt ((pagesOf l s).map firstId) tr k := by
        rcases Classical.em (∃ k, IsAt ((pagesOf l s).map firstId) tr k) with h | h
        · exact h
        · rw [atX, dif_neg h] at hk
          omega
      obtain ⟨k, hk3⟩ := hex
      rw [atX_of hk3] at hk ⊢
      obtain ⟨kn, rfl⟩ := nat_of (n := k) (by omega)
      have hkl := hk3.2.1
      rw [List.length_map] at hkl
      obtain ⟨p, hp⟩ : ∃ p, (pagesOf l s)[kn]? = some p := ⟨_, List.getElem?_eq_getElem (by omega)⟩
      rw [Int.toNat_natCast, (h.same (m' := callS (callS m)) rfl).page hl2 hp]
      simp only
      rw [if_neg (by simp)]
      refine congrArg (fun z => ((0 : Int), z)) ?_
      have hTp : IsT p := (cutL_parts s.pg l.length l hT p (List.mem_of_getElem? hp)).2.2.1
      rcases Classical.em (∃ t ∈ l, t.id = (tr : Int)) with ⟨t, ht, e⟩ | hno
      · rw [spOf_mem hT ht e]
        rw [← pages_flat l s] at ht
        obtain ⟨r, hr, htr⟩ := List.mem_flatten.1 ht
        obtain ⟨i, hi⟩ := List.getElem?_of_mem hr
        have h5 := hP.at_ h0 hi htr
        rw [e, Int.toNat_natCast] at h5
        have h6 := IsAt.one hk3 h5
        have : kn = i := by omega
        subst this
        rw [hp] at hi
        injection hi with hi
        subst hi
        exact spOf_mem hTp htr e
      · rw [spOf_none fun t ht e => hno ⟨t, ht, e⟩]
        exact spOf_none fun t ht e => hno ⟨t, hmem p (List.mem_of_getElem? hp) t ht, e⟩
  · rw [if_neg hh]
    refine congrArg (fun z => ((0 : Int), z)) (spOf_none fun t ht e => hh ?_).symm
    exact h.ok0.adds_has _ _ (List.mem_map.2 ⟨t, ht, by rw [e]; rfl⟩)

theorem HasAll.of_write {m : Sm} {id N : Nat} {l : List Tn} {s : Sz} (hF : (wrA m id 0 l s).1.fine N) (hid : id < 18446744073709551616) (hl : l.length ≤ 200) (hok : ∀ t ∈ l, (0 ≤ t.id ∧ t.id ≤ 18446744073709551615) ∧ ∀ s ∈ t.sp, s.ok) (hz : (wrA m id 0 l s).2 = 0) : HasAll (wrA m id 0 l s).1 id l s := by
  have hB := last_has hF hid hl hok hz
  obtain ⟨hk, he⟩ := wrA_ok hz
  have hp : (pagesOf l s).length ≤ 200 := Nat.le_trans (pages_len l s) hl
  have hz' := hz
  rw [he] at hz'
  have hall := wrL_all (bkObs id 0 l s) m (bkObs_names hp) hz'
  rw [← he] at hall
  obtain ⟨oi, i1, i2⟩ := hall ⟨nmOf id [105] 0, bkIx (pagesOf l s)⟩ (by simp [bkObs])
  obtain ⟨of, f1, f2⟩ := hall ⟨nmOf id [102] 0, (bkFl l s).bytes⟩ (by simp [bkObs])
  refine ⟨hB, ⟨oi, i1, i2⟩, ⟨of, f1, f2⟩, ?_, fun t ht => (hok t ht).1⟩
  have hsz := hk.sz
  have hr := (szB_iff.1 hsz).1
  refine Bl.new_ok ?_
  obtain ⟨pg, sh, bi, hs⟩ := s
  simp only at hr ⊢
  have h7 := rightI_iff.1 hr
  obtain ⟨a1, a2, a3, a4, a5, a6, a7⟩ := h7
  refine rightI_iff.2 ⟨?_, ?_, ?_, ?_, ?_, ?_, ?_⟩ <;> omega

end Go.Proofs.YtfaefacefdkjdaaGreatDoor

namespace Go.Proofs.YtfaefacefdkjdaaGreatDoor
open Go.RowKit
set_option maxRecDepth 100000

def BadS (b : List UInt8) : Prop := 4 ≤ b.length ∧ tailOf b ≠ crcOf (bodyOf b)
theorem meX_bad {x : List UInt8} (h : BadS x) : meX x = (7, Me.zero) := by rw [meX, if_neg (by have := h.1; omega), if_neg h.2]
theorem ixX_bad {x : List UInt8} (h : BadS x) : ixX x = (7, []) := by rw [ixX, if_neg (by have := h.1; omega), if_neg h.2]
theorem getX_bad {x : List UInt8} (h : BadS x) : getX x = .error 7 := getX_sum h.1 h.2
theorem pgX_bad {x : List UInt8} (h : BadS x) : pgX x = (7, []) := pgX_sum (by have := h.1; omega) h.2
def NearB (m0 m : Sm) : Prop := ∀ n, fnd n m.l = fnd n m0.l ∨ ∃ o, fnd n m.l = some o ∧ BadS o.b
section
variable {m0 m : Sm}
theorem NearB.same (e : m.l = m0.l) : NearB m0 m := fun n => .inl (by rw [e])
theorem NearB.call (h : NearB m0 m) : NearB m0 (callS m) := h
theorem NearB.fail (h : NearB m0 m) (n : Int) : NearB m0 (failS m n) := h
theorem NearB.got (h : NearB m0 m) {n : List UInt8} {o : Ob} (ho : fnd n m0.l = some o) : (sGet m n).2 ≠ 0 ∨ ((sGet m n).2 = 0 ∧ ((sGet m n).1 = o.b ∨ BadS (sGet m n).1)) := by
  cases hc : callB m with
  | false =>
    rw [sGet_fail hc]
    exact .inl (by simp)
  | true =>
    rcases h n with e | ⟨o', e, hb⟩
    · rw [sGet_fnd hc (e.trans ho)]
      exact .inr ⟨rfl, .inl rfl⟩
    · rw [sGet_fnd hc e]
      exact .inr ⟨rfl, .inr hb⟩
variable {id : Nat} {l : List Tn} {s : Sz}
theorem NearB.meta (hA : HasAll m0 id l s) (h : NearB m0 m) : (meR m id).1 ≠ 0 ∨ meR m id = (0, bkMe id 0 l s) := by
  obtain ⟨o, h1, h2⟩ := hA.bk.me
  rcases h.got h1 with hc | ⟨hc, hb | hb⟩
  · left
    rw [meR, if_pos hc]
    exact hc
  · right
    rw [meR, if_neg (by rw [hc]; simp), hb, h2, meX_put _ hA.bk.mb hA.bk.mo, if_neg (by simp), if_pos hA.bk.mi]
  · left
    rw [meR, if_neg (by rw [hc]; simp), meX_bad hb, if_pos (by simp)]
    simp
theorem NearB.page (hA : HasAll m0 id l s) (h : NearB m0 m) {i : Nat} {p : List Tn} (hp : (pagesOf l s)[i]? = some p) : (pgR m id i).1 ≠ 0 ∨ pgR m id i = (0, p) := by
  obtain ⟨o, h1, h2, hv, _⟩ := hA.bk.pages i p hp
  rcases h.got h1 with hc | ⟨hc, hb | hb⟩
  · left
    rw [pgR, if_pos hc]
    exact hc
  · right
    rw [pgR, if_neg (by rw [hc]; simp), hb, h2, pgX_put hv]
  · left
    rw [pgR, if_neg (by rw [hc]; simp), pgX_bad hb]
    simp
theorem NearB.rd (hA : HasAll m0 id l s) : ∀ (n k : Nat) (m : Sm), NearB m0 m → k + n = (pagesOf l s).length → ((rdA id n k m ((pagesOf l s).take k).flatten).1.1 ≠ 0 ∧ (rdA id n k m ((pagesOf l s).take k).flatten).1.2 = []) ∨ (rdA id n k m ((pagesOf l s).take k).flatten).1 = (0, l)
  | 0, k, m, h, hk => by
    right
    rw [rdA, List.take_of_length_le (by omega), pages_flat]
  | n + 1, k, m, h, hk => by
    obtain ⟨p, hp⟩ : ∃ p, (pagesOf l s)[k]? = some p := ⟨_, List.getElem?_eq_getElem (by omega)⟩
    rcases h.page hA hp with e | e
    · left
      rw [rdA_fail e]
      exact ⟨e, rfl⟩
    · rw [rdA_on (by rw [e]), e]
      simp only
      rw [← take_flat hp]
      exact NearB.rd hA n (k + 1) (callS m) h.call (by omega)
theorem NearB.all (hA : HasAll m0 id l s) (h : NearB m0 m) : ((alR m id).1.1 ≠ 0 ∧ (alR m id).1.2 = []) ∨ (alR m id).1 = (0, l) := by
  rcases h.meta hA with e | e
  · left
    rw [alR, if_pos e]
    exact ⟨e, rfl⟩
  · have hr := NearB.rd hA (pagesOf l s).length 0 (callS m) h.call (by omega)
    have hn : (bkMe id 0 l s).pg.toNat = (pagesOf l s).length := by rw [hA.bk.mp]; rfl
    rw [List.take_zero, List.flatten_nil] at hr
    unfold alR
    rw [e]
    simp only [hn]
    rw [if_neg (by simp)]
    rcases hr with hr | hr
    · left
      rw [if_pos hr.1]
      exact hr
    · right
      rw [hr, if_neg (by simp), if_pos ⟨isB_true hA.flat, by rw [hA.bk.mt, pages_flat]⟩, hr]
theorem NearB.find {tr : Nat} (hA : HasAll m0 id l s) (h0 : m0.left = -1) (h : NearB m0 m) : ((fiR m id tr).1.1 ≠ 0 ∧ (fiR m id tr).1.2 = []) ∨ (fiR m id tr).1 = (0, spOf tr l) := by
  have hF := hA.find (tr := tr) h0
  obtain ⟨of, f1, f2⟩ := hA.fl
  obtain ⟨oi, i1, i2⟩ := hA.ix
  have hT := hA.flat
  have hps : pagesB (pagesOf l s) = true := pages_ok hT s hA.bk.few
  have hP := pagesB_pgs hps
  have hmem : ∀ r ∈ pagesOf l s, ∀ t ∈ r, t ∈ l := fun r hr t ht => by
    rw [← pages_flat l s]
    exact List.mem_flatten.2 ⟨r, hr, ht⟩
  have g0 : ∀ r ∈ pagesOf l s, ∀ t ∈ r, 0 ≤ t.id := fun r hr t ht => (hA.ids t (hmem r hr t ht)).1
  have g1 : ∀ r ∈ pagesOf l s, ∀ t ∈ r, t.id ≤ 18446744073709551615 := fun r hr t ht => (hA.ids t (hmem r hr t ht)).2
  have hl1 := (left_call h0).2
  have hl2 := (left_call hl1).2
  rw [fiR, sGet_fnd (left_call h0).1 f1] at hF
  simp only [f2] at hF
  rw [if_neg (by simp), hA.ok.getX] at hF
  simp only at hF
  rcases h.got f1 with hc | ⟨hc, hb | hb⟩
  · left
    rw [fiR, if_pos hc]
    exact ⟨hc, rfl⟩
  · rw [fiR, if_neg (by rw [hc]; simp), hb, f2, hA.ok.getX]
    simp only
    by_cases hh : (bkFl l s).has tr = true
    · rw [if_pos hh] at hF ⊢
      rw [fiI, sGet_fnd (left_call hl1).1 (show fnd (nmOf id [105] 0) (callS m0).l = some oi from i1)] at hF
      simp only [i2] at hF
      rw [if_neg (by simp), bkIx, ixX_put _ (Pgs.bound g1) (hP.ix g0), if_neg (by simp)] at hF
      simp only at hF
      rcases h.call.got i1 with hc2 | ⟨hc2, hb2 | hb2⟩
      · left
        rw [fiI, if_pos hc2]
        exact ⟨hc2, rfl⟩
      · rw [fiI, if_neg (by rw [hc2]; simp), hb2, i2, bkIx, ixX_put _ (Pgs.bound g1) (hP.ix g0), if_neg (by simp)]
        simp only
        rw [fiP] at hF ⊢
        by_cases hk : atX ((pagesOf l s).map firstId) tr < 0
        · rw [if_pos hk] at hF ⊢
          exact .inr hF
        · rw [if_neg hk] at hF ⊢
          have hex : ∃ k, IsAt ((pagesOf l s).map firstId) tr k := by
            rcases Classical.em (∃ k, IsAt ((pagesOf l s).map firstId) tr k) with h | h
            · exact h
            · rw [atX, dif_neg h] at hk
              omega
          obtain ⟨k, hk3⟩ := hex
          rw [atX_of hk3] at hk hF ⊢
          obtain ⟨kn, rfl⟩ := nat_of (n := k) (by omega)
          have hkl := hk3.2.1
          rw [List.length_map] at hkl
          obtain ⟨p, hp⟩ : ∃ p, (pagesOf l s)[kn]? = some p := ⟨_, List.getElem?_eq_getElem (by omega)⟩
          rw [Int.toNat_natCast] at hF ⊢
          rw [(hA.same (m' := callS (callS m0)) rfl).page hl2 hp] at hF
          simp only at hF
          rw [if_neg (by simp)] at hF
          rcases h.call.call.page hA hp with e | e
          · left
            rw [if_pos e]
            exact ⟨e, rfl⟩
          · right
            rw [e, if_neg (by simp)]
            exact hF
      · left
        rw [fiI, if_neg (by rw [hc2]; simp), ixX_bad hb2, if_pos (by simp)]
        simp
    · rw [if_neg hh] at hF ⊢
      exact .inr hF
  · left
    rw [fiR, if_neg (by rw [hc]; simp), getX_bad hb]
    simp
end

theorem NearB.alt {m0 : Sm} (hR : Rise m0.l) (hs : ∀ n o, fnd n m0.l = some o → ∃ x, o.b = sealedOf x) (n : List UInt8) (at_ : Int) (x : UInt8) : NearB m0 (sAlt m0 n at_ x).1 := by
  cases hf : fnd n m0.l with
  | none => rw [sAlt_no' (.inl hf)]; exact NearB.same rfl
  | some o =>
    by_cases hx : x = 0
    · rw [sAlt_no' (.inr (.inl hx))]; exact NearB.same rfl
    · by_cases ha : at_ < 0
      · rw [sAlt_no' (.inr (.inr ha))]; exact NearB.same rfl
      · obtain ⟨k, rfl⟩ := nat_of (n := at_) (by omega)
        by_cases hk : o.b.length ≤ k
        · rw [sAlt_out' hf (by omega)]; exact NearB.same rfl
        · obtain ⟨z, hz⟩ := hs n o hf
          have hkz : k < (sealedOf z).length := by rw [← hz]; omega
          obtain ⟨l', e, _, _, h1, h2⟩ := sAlt_ok hf hx (y := (sealedOf z)[k]) (by rw [hz]; exact List.getElem?_eq_getElem hkz) hR
          rw [e]
          intro n'
          by_cases hn : n' = n
          · subst hn
            refine .inr ⟨_, h1, ?_, ?_⟩
            · simp only [hz, List.length_set, sealedOf_length]
              omega
            · simp only [hz]
              exact altered z k x hkz hx
          · exact .inl (h2 n' hn)
theorem wrL_from {n : List UInt8} : ∀ (os : List Ob) (m : Sm) {o : Ob}, fnd n (wrL m os).1.l = some o → fnd n m.l = some o ∨ ∃ p ∈ os, o.b = p.b
  | [], m, o, h => .inl h
  | p :: os, m, o, h => by
    by_cases hz : (sPut m p.nm p.b).2 = 0
    · rw [wrL_ok hz] at h
      rcases wrL_from os _ h with h | ⟨q, hq, e⟩
      · by_cases hn : p.nm = n
        · subst hn
          obtain ⟨o', h1, h2⟩ := fnd_same hz
          rw [h] at h1
          injection h1 with h1
          subst h1
          exact .inr ⟨p, List.mem_cons_self .., h2⟩
        · rw [fnd_put hn] at h
          exact .inl h
      · exact .inr ⟨q, List.mem_cons_of_mem _ hq, e⟩
    · rw [wrL_no hz, sPut_left hz] at h
      exact .inl h
theorem bkObs_sealed {id : Nat} {lv : Int} {l : List Tn} {s : Sz} : ∀ o ∈ bkObs id lv l s, ∃ x, o.b = sealedOf x := by
  intro o ho
  rcases List.mem_append.1 ho with h | h
  · obtain ⟨i, p, _, rfl⟩ := obPages_mem h
    exact ⟨_, rfl⟩
  · simp only [List.mem_cons, List.not_mem_nil, or_false] at h
    rcases h with rfl | rfl | rfl <;> exact ⟨_, rfl⟩
theorem wrA_sealed {m : Sm} {id : Nat} {lv : Int} {l : List Tn} {s : Sz} (hm : m.l = []) : ∀ n o, fnd n (wrA m id lv l s).1.l = some o → ∃ x, o.b = sealedOf x := by
  intro n o h
  by_cases hk : BkOk id lv l s
  · obtain ⟨h1, _, h3⟩ := bk_ok hk
    rw [wrA, if_pos h3, h1] at h
    rcases wrL_from _ _ h with h | ⟨p, hp, e⟩
    · rw [hm] at h
      cases h
    · obtain ⟨x, hx⟩ := bkObs_sealed p hp
      exact ⟨x, e.trans hx⟩
  · obtain ⟨_, _, h3⟩ := bk_no hk
    rw [wrA, if_neg (by rw [h3]; omega), hm] at h
    cases h

end Go.Proofs.YtfaefacefdkjdaaGreatDoor

namespace Go.Proofs.YtfaefacefdkjdaaGreatDoor
open Go.RowKit
set_option maxRecDepth 100000

theorem fiR_calls (m : Sm) (id tr : Nat) : (fiR m id tr).2 = callS m ∨ (fiR m id tr).2 = callS (callS m) ∨ (fiR m id tr).2 = callS (callS (callS m)) := by
  have hP : ∀ (m : Sm) ns, (fiP m id tr ns).2 = m ∨ (fiP m id tr ns).2 = callS m := fun m ns => by
    unfold fiP
    split
    · exact .inl rfl
    · split <;> exact .inr rfl
  have hI : ∀ (m : Sm), (fiI m id tr).2 = callS m ∨ (fiI m id tr).2 = callS (callS m) := fun m => by
    unfold fiI
    split
    · exact .inl rfl
    · split
      · exact .inl rfl
      · exact hP _ _
  unfold fiR
  split
  · exact .inl rfl
  · split
    · exact .inl rfl
    · split
      · exact .inr (hI _)
      · exact .inl rfl
theorem fiR_l (m : Sm) (id tr : Nat) : (fiR m id tr).2.l = m.l := by
  rcases fiR_calls m id tr with h | h | h <;> rw [h] <;> rfl
theorem fiR_left {m : Sm} (id tr : Nat) (h : m.left = -1) : (fiR m id tr).2.left = -1 := by
  have h1 := (left_call h).2
  have h2 := (left_call h1).2
  rcases fiR_calls m id tr with e | e | e <;> rw [e]
  · exact h1
  · exact h2
  · exact (left_call h2).2
theorem sPut_left1 {m : Sm} {n b : List UInt8} (h : m.left = -1) : (sPut m n b).1.left = -1 := by
  have := (left_call h).2
  unfold sPut
  repeat' split
  all_goals exact this
theorem wrL_left1 : ∀ (os : List Ob) (m : Sm), m.left = -1 → (wrL m os).1.left = -1
  | [], m, h => h
  | o :: os, m, h => by
    rw [wrL]
    split
    · exact wrL_left1 os _ (sPut_left1 h)
    · exact sPut_left1 h
theorem wrA_left1 {m : Sm} (h : m.left = -1) (id : Nat) (lv : Int) (l : List Tn) (s : Sz) : (wrA m id lv l s).1.left = -1 := by
  unfold wrA
  split
  · exact wrL_left1 _ _ h
  · exact h
theorem spOf_take {tr k : Nat} {l : List Tn} {t : Tn} (h : IsT l) (hk : l[k]? = some t) : spOf tr (l.take (k + 1)) = if t.id = (tr : Int) then t.sp else spOf tr (l.take k) := by
  have hp := ids_pairwise h.up
  have hkl := (List.getElem?_eq_some_iff.1 hk).1
  have hk2 := (List.getElem?_eq_some_iff.1 hk).2
  have hno : t.id = (tr : Int) → ∀ x ∈ l.take k, x.id ≠ (tr : Int) := fun e x hx e2 => by
    obtain ⟨j, hj⟩ := List.getElem?_of_mem hx
    obtain ⟨hjl, hj2⟩ := List.getElem?_eq_some_iff.1 hj
    rw [List.length_take] at hjl
    rw [List.getElem_take] at hj2
    have := (List.pairwise_iff_getElem.1 hp) j k (by omega) hkl (by omega)
    rw [hj2, hk2, e, e2] at this
    omega
  have happ : ∀ (a : List Tn) (hn : ∀ x ∈ a, x.id ≠ (tr : Int)) (b : List Tn), spOf tr (a ++ b) = spOf tr b := by
    intro a
    induction a with
    | nil => intro _ b; rfl
    | cons x a ih =>
      intro hn b
      rw [List.cons_append, spOf, if_neg (hn x (List.mem_cons_self ..)), ih (fun y hy => hn y (List.mem_cons_of_mem _ hy))]
  have htk : l.take (k + 1) = l.take k ++ [t] := by rw [List.take_add_one, hk]; rfl
  rw [htk]
  split
  · rename_i e
    rw [happ _ (hno e), spOf, if_pos e]
  · rename_i e
    have hend : ∀ (a : List Tn), spOf tr (a ++ [t]) = spOf tr a := by
      intro a
      induction a with
      | nil => show (if t.id = (tr : Int) then t.sp else spOf tr []) = spOf tr []; rw [if_neg e]
      | cons x a ih =>
        rw [List.cons_append, spOf, spOf, ih]
    exact hend _

end Go.Proofs.YtfaefacefdkjdaaGreatDoor

/-
  The document's pipe: Read, Write.
-/
import Derived.Test.YtiaenfnjjlpknaaPpRef
namespace Go.Proofs.Ytiaenfnjjlpknaa
open Go.RowKit

theorem empty_of {D : ByteArray} {s : List UInt8} (h : D = BA s) : (s = [] → D.toList.isEmpty = true) ∧ (s ≠ [] → D.toList.isEmpty = false) := by
  rw [h, ByteArray.toList_eq]
  cases s with
  | nil => exact ⟨fun _ => rfl, fun e => absurd rfl e⟩
  | cons _ _ => exact ⟨fun e => (by cases e), fun _ => rfl⟩
set_option maxRecDepth 20000 in
set_option maxHeartbeats 1000000 in
theorem rread_any {w : World} {q : Nat} {x : Pp} (H : RAt w q x) (n : Int) : Calls Try.prog 11 #[.pointer (some ⟨q, 0, none⟩), .int .i64 n] w fun e w' => e = .returned (.tuple #[.string (BA (rdT x n)), .int .i64 (rdE x n)]) ∧ RAt w' q (rdS x n) ∧ GrownS w w' (fun k => k = q) := by
  obtain ⟨c0, c1, c2, hf⟩ := H.cells
  have f0 := hf 0
  obtain ⟨D, hD⟩ : ∃ D, D = BA x.s := ⟨_, rfl⟩
  have hDs : D.size = x.s.length := by rw [hD]; rfl
  obtain ⟨he1, he2⟩ := empty_of hD
  rw [← hD] at c0
  by_cases hE : rdE x n = 0
  · have h0 : x.r ≠ 0 := fun e => by unfold rdE at hE; rw [if_pos e] at hE; cases hE
    have h1 : ¬ n < 0 := fun e => by unfold rdE at hE; rw [if_neg h0, if_pos e] at hE; cases hE
    have h2 : ¬ (x.s = [] ∧ 0 < x.t ∧ 0 < n) := fun e => by unfold rdE at hE; rw [if_neg h0, if_neg h1, if_pos e] at hE; cases hE
    rw [show rdT x n = x.s.take n.toNat by unfold rdT; rw [if_pos hE], show rdS x n = ⟨x.s.drop n.toNat, x.r, x.t⟩ by unfold rdS; rw [if_pos hE], hE]
    obtain ⟨m, rfl⟩ : ∃ m : Nat, n = m := ⟨n.toNat, by omega⟩
    rw [show (m : Int).toNat = m by omega]
    obtain ⟨k, hk⟩ : ∃ k, k = min m x.s.length := ⟨_, rfl⟩
    have e1 : x.s.take k = x.s.take m := by
      rw [hk]
      rcases Nat.le_total m x.s.length with h | h
      · rw [Nat.min_eq_left h]
      · rw [Nat.min_eq_right h, List.take_length, List.take_of_length_le h]
    have e2 : x.s.drop k = x.s.drop m := by
      rw [hk]
      rcases Nat.le_total m x.s.length with h | h
      · rw [Nat.min_eq_left h]
      · rw [Nat.min_eq_right h, List.drop_length, List.drop_of_length_le h]
    have hr : ((x.r : Int) == 0) = false := by simp; omega
    have hm : D.toList.isEmpty = false ∨ (D.toList.isEmpty = true ∧ x.s.length = 0 ∧ x.t = 0) ∨ (D.toList.isEmpty = true ∧ x.s.length = 0 ∧ (0 : Int) < (x.t : Int) ∧ m = 0) := by
      by_cases hs : x.s = []
      · by_cases ht : x.t = 0
        · exact .inr (.inl ⟨he1 hs, by simp [hs], ht⟩)
        · exact .inr (.inr ⟨he1 hs, by simp [hs], by omega, by
            by_cases hm : m = 0
            · exact hm
            · exact absurd ⟨hs, by omega, by omega⟩ h2⟩)
      · exact .inl (he2 hs)
    have hx1 : D.extract 0 k = BA (x.s.take m) := by rw [hD, ← e1]; exact ext_take x.s k
    have hx2 : D.extract k x.s.length = BA (x.s.drop m) := by rw [hD, ← e2]; exact ext_drop x.s k _ rfl
    have hkD : k ≤ D.size := by omega
    have HQ := hide (H.set0 (x.s.drop m))
    obtain ⟨T, hT⟩ : ∃ T, T = BA (x.s.take m) := ⟨_, rfl⟩
    obtain ⟨R, hR⟩ : ∃ R, R = BA (x.s.drop m) := ⟨_, rfl⟩
    obtain ⟨y, hy⟩ : ∃ y : Pp, y = ⟨x.s.drop m, x.r, x.t⟩ := ⟨_, rfl⟩
    rw [← hT] at hx1
    rw [← hR] at hx2
    rw [← hR, ← hy] at HQ
    rw [← hT, ← hy]
    have hn1 : ¬ (m : Int) < 0 := by omega
    have hmin : ((x.s.length : Int) < (m : Int) ∧ k = x.s.length) ∨ (¬ (x.s.length : Int) < (m : Int) ∧ k = m) := by omega
    have hTe : k = 0 → T = ByteArray.empty := fun e => by rw [hT, ← e1, e, List.take_zero]; rfl
    have hRe : k = x.s.length → R = ByteArray.empty := fun e => by rw [hR, ← e2, e, List.drop_length]; rfl
    obtain ⟨s, r, t⟩ := x
    simp only at c1 c2 hr hm hmin hDs hRe hx2
    obtain ⟨l, hl⟩ : ∃ l, l = s.length := ⟨_, rfl⟩
    rw [← hl] at hm hmin hDs hRe hx2
    clear hk e1 e2 hT hy hR hl H hE h0 h1 h2 hD he1 he2 hf
    rcases hm with hm | ⟨hm, rfl, rfl⟩ | ⟨hm, rfl, hm2, rfl⟩ <;> rcases hmin with ⟨m1, rfl⟩ | ⟨m1, rfl⟩ <;> first | (exfalso; omega) | skip
    all_goals
      try (have hTe2 := hTe rfl; subst hTe2)
      try (have hRe2 := hRe rfl; subst hRe2)
      clear hTe hRe
      go_enter Try.func11, Try.ntmps11
      go_wp2
      go_ret2
      exact ⟨rfl, unhide HQ, own_set _ _ _ _⟩
  · rw [show rdT x n = [] by unfold rdT; rw [if_neg hE], show rdS x n = x by unfold rdS; rw [if_neg hE]]
    have HH := hide H
    obtain ⟨E, hEE⟩ : ∃ E, E = rdE x n := ⟨_, rfl⟩
    rw [← hEE]
    have hc : (x.r = 0 ∧ E = 28) ∨ (((x.r : Int) == 0) = false ∧ n < 0 ∧ E = 1) ∨ (((x.r : Int) == 0) = false ∧ ¬ n < 0 ∧ D.toList.isEmpty = true ∧ (0 : Int) < (x.t : Int) ∧ 0 < n ∧ E = 30) := by
      unfold rdE at hEE hE
      by_cases h0 : x.r = 0
      · rw [if_pos h0] at hEE
        exact .inl ⟨h0, hEE⟩
      · rw [if_neg h0] at hEE hE
        by_cases h1 : n < 0
        · rw [if_pos h1] at hEE
          exact .inr (.inl ⟨by simp; omega, h1, hEE⟩)
        · rw [if_neg h1] at hEE hE
          by_cases h2 : x.s = [] ∧ 0 < x.t ∧ 0 < n
          · rw [if_pos h2] at hEE
            exact .inr (.inr ⟨by simp; omega, h1, he1 h2.1, by omega, h2.2.2, hEE⟩)
          · rw [if_neg h2] at hE
            exact absurd rfl hE
    obtain ⟨s, r, t⟩ := x
    simp only at c1 c2 hc
    clear hEE hE H hD hDs he1 he2 hf
    rcases hc with ⟨rfl, rfl⟩ | ⟨h0, h1, rfl⟩ | ⟨h0, h1, h2, h3, h4, rfl⟩
    all_goals
      go_enter Try.func11, Try.ntmps11
      go_wp2
      go_ret2
      exact ⟨rfl, unhide HH, grownS_of_below (Below.refl _ _)⟩

set_option maxRecDepth 20000 in
set_option maxHeartbeats 1000000 in
theorem rwrite_any {w : World} {q : Nat} {x : Pp} (H : RAt w q x) (hfit : Fit x) (d : List UInt8) : Calls Try.prog 13 #[.pointer (some ⟨q, 0, none⟩), .string (BA d)] w fun e w' => e = .returned (.tuple #[.int .i64 (wrN x d : Int), .int .i64 (wrE x d)]) ∧ RAt w' q (wrS x d) ∧ GrownS w w' (fun k => k = q) := by
  obtain ⟨c0, c1, c2, hf⟩ := H.cells
  have f0 := hf 0
  have HH := hide H
  obtain ⟨S, hS⟩ : ∃ S, S = BA x.s := ⟨_, rfl⟩
  have hSs : S.size = x.s.length := by rw [hS]; rfl
  rw [← hS] at c0
  obtain ⟨D, hD⟩ : ∃ D, D = BA d := ⟨_, rfl⟩
  have hDs : D.size = d.length := by rw [hD]; rfl
  obtain ⟨he1, he2⟩ := empty_of hD
  rw [← hD]
  by_cases ht : x.t = 0
  · rw [show wrN x d = 0 by unfold wrN; rw [if_pos ht], show wrE x d = 28 by unfold wrE; rw [if_pos ht], show wrS x d = x by unfold wrS; rw [if_pos (.inl ht)]]
    rw [ht] at c2
    clear hD H hDs ht hS hSs he1 he2 hf hfit
    go_enter Try.func13, Try.ntmps13
    go_wp2
    go_ret2
    exact ⟨rfl, unhide HH, grownS_of_below (Below.refl _ _)⟩
  have hq1 : ((x.t : Int) == 0) = false := by simp; omega
  by_cases hr : x.r = 0
  · rw [show wrN x d = d.length by unfold wrN; rw [if_neg ht, if_pos hr], show wrE x d = 0 by unfold wrE; rw [if_neg ht, if_pos hr], show wrS x d = x by unfold wrS; rw [if_pos (.inr hr)]]
    rw [hr] at c1
    clear hD H hr ht hS hSs he1 he2 hf hfit
    go_enter Try.func13, Try.ntmps13
    go_wp2
    go_ret2
    exact ⟨rfl, unhide HH, grownS_of_below (Below.refl _ _)⟩
  have hq2 : ((x.r : Int) == 0) = false := by simp; omega
  have hfew := hfit.few
  obtain ⟨n, hn⟩ : ∃ n, n = room x d := ⟨_, rfl⟩
  have hN : wrN x d = n := by unfold wrN; rw [if_neg ht, if_neg hr, hn]
  have hSS : wrS x d = ⟨x.s ++ d.take n, x.r, x.t⟩ := by unfold wrS; rw [if_neg (by omega), hn]
  have hE : wrE x d = if n = 0 ∧ d ≠ [] then 30 else 0 := by unfold wrE; rw [if_neg ht, if_neg hr, hn]
  rw [hN, hSS, hE]
  have hn2 : n = min d.length (64 - x.s.length) := hn
  obtain ⟨rm, hrm⟩ : ∃ rm, rm = 64 - x.s.length := ⟨_, rfl⟩
  have hw : IntKind.i64.wrap (64 - (x.s.length : Int)) = (rm : Int) := by rw [IntKind.wrap_i64]; omega
  have hmin : ((rm : Int) < (d.length : Int) ∧ n = rm) ∨ (¬ (rm : Int) < (d.length : Int) ∧ n = d.length) := by omega
  by_cases h0 : n = 0 ∧ d ≠ []
  · rw [if_pos h0]
    have e0 : (⟨x.s ++ d.take n, x.r, x.t⟩ : Pp) = x := by rw [h0.1, List.take_zero, List.append_nil]
    rw [e0]
    have hne : D.toList.isEmpty = false := he2 h0.2
    obtain ⟨dl, hdl⟩ : ∃ dl, dl = d.length := ⟨_, rfl⟩
    have hd0 : 0 < dl := by rw [hdl]; exact List.length_pos_iff.2 h0.2
    rw [← hdl] at hDs hmin
    have hrm0 : rm = 0 ∧ n = 0 := by omega
    obtain ⟨r0, n0⟩ := hrm0
    have hm2 : (0 : Int) < (dl : Int) := by omega
    rw [r0] at hw
    rw [n0]
    obtain ⟨l, hl⟩ : ∃ l, l = x.s.length := ⟨_, rfl⟩
    rw [← hl] at hw hSs
    clear hl hD hmin hn hn2 hN hSS hE h0 hdl H e0 hd0 r0 n0 hfew hrm ht hr hS he1 he2 hf hfit
    go_enter Try.func13, Try.ntmps13
    go_wp2
    go_ret2
    exact ⟨rfl, unhide HH, grownS_of_below (Below.refl _ _)⟩
  · rw [if_neg h0]
    have hex : D.extract 0 n = BA (d.take n) := by rw [hD]; exact ext_take d n
    have hsum : ∀ W : World, (Op.stringOp .add S (BA (d.take n))).run Try.prog W = .ok (.string (BA (x.s ++ d.take n))) W := fun W => by
      rw [hS]
      exact sum_run x.s (d.take n) (by rw [List.length_take]; omega) W
    obtain ⟨T, hT⟩ : ∃ T, T = BA (d.take n) := ⟨_, rfl⟩
    rw [← hT] at hex
    simp only [← hT] at hsum
    have HQ := hide (H.set0 (x.s ++ d.take n))
    obtain ⟨R, hR⟩ : ∃ R, R = BA (x.s ++ d.take n) := ⟨_, rfl⟩
    obtain ⟨y, hy⟩ : ∃ y : Pp, y = ⟨x.s ++ d.take n, x.r, x.t⟩ := ⟨_, rfl⟩
    simp only [← hR] at hsum
    rw [← hR, ← hy] at HQ
    rw [← hy]
    have hc : ((n : Int) == 0) = false ∨ (D.toList.isEmpty = true ∧ n = 0 ∧ d.length = 0 ∧ T = ByteArray.empty) := by
      by_cases hd : d = []
      · refine .inr ⟨he1 hd, ?_, by rw [hd]; rfl, by rw [hT, hd, List.take_nil]; rfl⟩
        rw [hn2, hd]
        simp
      · refine .inl ?_
        have : n ≠ 0 := fun e => h0 ⟨e, hd⟩
        simp
        omega
    have hns : n ≤ D.size := by omega
    obtain ⟨l, hl⟩ : ∃ l, l = x.s.length := ⟨_, rfl⟩
    rw [← hl] at hw hSs
    obtain ⟨dl, hdl⟩ : ∃ dl, dl = d.length := ⟨_, rfl⟩
    rw [← hdl] at hDs hmin hc
    have HG : Hid (∀ k, GrownS w ((w.drewN k).setCell ⟨q, 0, none⟩ (.string R)) (fun k => k = q)) := hide (fun k => (grownS_of_below (below_drew w k)).trans (own_set _ q 0 _))
    have HQ2 : Hid (∀ k, RAt ((w.drewN k).setCell ⟨q, 0, none⟩ (.string R)) q y) := hide (fun k => by
      rw [hR, hy]
      exact (show RAt (w.drewN k) q x from Blk.grownS (unhide HH) (grownS_of_below (S := fun _ => False) (below_drew w k)) (fun e => e)).set0 _)
    clear hl hD hn hn2 hN hSS hE h0 hdl H hfew hrm ht hr hT hy hR hS he1 he2 hf hfit HQ
    rcases hc with hc | ⟨he, rfl, rfl, rfl⟩ <;> rcases hmin with ⟨m1, m2⟩ | ⟨m1, m2⟩
    all_goals
      try subst m2
      first
      | (exfalso; omega)
      | skip
    all_goals
      go_enter Try.func13, Try.ntmps13
      go_wp2
      go_region
      go_wp2
      go_ret2
      exact ⟨rfl, unhide HQ2 1, unhide HG 1⟩

end Go.Proofs.Ytiaenfnjjlpknaa

/-
  A pipe's calls: New, Read, Write, Join, Leave, Len, Users.
-/
import Derived.Test.YtiaenfnjjlpknaaPpIo
import Derived.BigQuiet
namespace Go.Proofs.Ytiaenfnjjlpknaa
open Go.RowKit

def I64 (x : Int) : Prop := -9223372036854775808 ≤ x ∧ x ≤ 9223372036854775807
theorem PAt.cells {w : World} {p : Nat} {x : Pp} (H : PAt w p x) : w.cell? ⟨p, 65, none⟩ = some (.int .i64 (x.s.length : Int)) ∧ w.cell? ⟨p, 66, none⟩ = some (.int .i64 (x.r : Int)) ∧ w.cell? ⟨p, 67, none⟩ = some (.int .i64 (x.t : Int)) ∧ ∀ k, w.frozen? ⟨p, k, none⟩ = false := by
  obtain ⟨_, f, cs, h⟩ := H
  exact ⟨h.blk.cell _ h.c65, h.blk.cell _ h.c66, h.blk.cell _ h.c67, fun k => h.blk.frozen k⟩
theorem PAt.set66 {w : World} {p : Nat} {x : Pp} (H : PAt w p x) {r : Nat} (hf : Fit ⟨x.s, r, x.t⟩) : PAt (w.setCell ⟨p, 66, none⟩ (.int .i64 (r : Int))) p ⟨x.s, r, x.t⟩ := by
  obtain ⟨_, f, cs, h⟩ := H
  exact PAt.of hf (h.set66 r) rfl
theorem PAt.set67 {w : World} {p : Nat} {x : Pp} (H : PAt w p x) {t : Nat} (hf : Fit ⟨x.s, x.r, t⟩) : PAt (w.setCell ⟨p, 67, none⟩ (.int .i64 (t : Int))) p ⟨x.s, x.r, t⟩ := by
  obtain ⟨_, f, cs, h⟩ := H
  exact PAt.of hf (h.set67 t) rfl
/-- The last reader leaves: its bytes are lost. -/
theorem PAt.last {w : World} {p : Nat} {x : Pp} (H : PAt w p x) : PAt ((w.setCell ⟨p, 66, none⟩ (.int .i64 0)).setCell ⟨p, 65, none⟩ (.int .i64 0)) p ⟨[], 0, x.t⟩ := by
  obtain ⟨hx, f, cs, h⟩ := H
  have h2 := (h.set66 0).set65 0
  exact PAt.of (x := ⟨[], 0, x.t⟩) ⟨by simp, fun _ => rfl, by simp, hx.ts⟩ ⟨h2.blk, h2.size, h2.c64, h2.c65, h2.c66, h2.c67, fun i c hc => by simp at hc, h2.f64⟩ rfl

def newC : Array Value := (Lib.byteCells (List.replicate 64 0) ++ ([.int .i64 0, .int .i64 0, .int .i64 1, .int .i64 1] : List Value)).toArray
theorem new_at {w : World} {p : Nat} (h : Blk w p 46 newC) : PAt w p np0 :=
  PAt.of (f := 0) fit0 ⟨h, by kernel_rfl, by kernel_rfl, by kernel_rfl, by kernel_rfl, by kernel_rfl, fun i c hc => by simp [np0] at hc, by decide⟩ rfl
def zerC : Array Value := (Lib.byteCells (List.replicate 64 0) ++ ([.int .i64 0, .int .i64 0, .int .i64 0, .int .i64 0] : List Value)).toArray
theorem zer_run (w : World) : (zeroValue 46).run Try.prog w = .ok (.agg zerC) w := by kernel_rfl
theorem zer_new : (zerC.setIfInBounds 66 (Value.int IntKind.i64 1)).setIfInBounds 67 (Value.int IntKind.i64 1) = newC := by kernel_rfl
theorem zer_size : zerC.size = 68 := by kernel_rfl
set_option maxRecDepth 20000 in
theorem new_any (w : World) : Calls Try.prog 7 #[] w fun e w' => ∃ p, e = .returned (.pointer (some ⟨p, 0, none⟩)) ∧ PAt w' p np0 ∧ Below w.heap.size w w' ∧ w.heap.size ≤ p := by
  have HB : Hid (PAt (w.alloc (.cells newC 46)) w.heap.size np0 ∧ Below w.heap.size w (w.alloc (.cells newC 46))) := hide ⟨new_at (Blk.new _ _ _), (Below.refl _ _).alloc (Nat.le_refl _) _⟩
  have z1 := zer_run w
  have z2 := zer_new
  have z3 := zer_size
  obtain ⟨Z, hZ⟩ : ∃ Z, Z = zerC := ⟨_, rfl⟩
  obtain ⟨C, hC⟩ : ∃ C, C = newC := ⟨_, rfl⟩
  rw [← hZ] at z1 z2 z3
  rw [← hC] at z2 HB
  clear hZ hC
  go_enter Try.func7, Try.ntmps7
  go_wp2
  go_ret
  exact ⟨w.heap.size, rfl, (unhide HB).1, (unhide HB).2, Nat.le_refl _⟩

set_option maxRecDepth 20000 in
theorem len_any {w : World} {p : Nat} {x : Pp} (H : PAt w p x) : Calls Try.prog 19 #[.pointer (some ⟨p, 0, none⟩)] w fun e w' => e = .returned (.int .i64 (x.s.length : Int)) ∧ w' = w := by
  obtain ⟨c65, c66, c67, _⟩ := H.cells
  obtain ⟨n, hn⟩ : ∃ n, n = x.s.length := ⟨_, rfl⟩
  rw [← hn] at c65
  rw [← hn]
  clear hn H
  go_enter Try.func19, Try.ntmps19
  go_wp2
  go_ret
  exact ⟨rfl, rfl⟩
set_option maxRecDepth 20000 in
theorem users_any {w : World} {p : Nat} {x : Pp} (H : PAt w p x) : Calls Try.prog 18 #[.pointer (some ⟨p, 0, none⟩)] w fun e w' => e = .returned (.tuple #[.int .i64 (x.r : Int), .int .i64 (x.t : Int)]) ∧ Below w.heap.size w w' := by
  obtain ⟨c65, c66, c67, _⟩ := H.cells
  obtain ⟨s, r, t⟩ := x
  simp only at *
  clear H c65
  go_enter Try.func18, Try.ntmps18
  go_wp2
  go_quiet (fail)
  go_wp2
  go_ret2
  exact ⟨rfl, below_drew _ _⟩
def sideO : Bool → Nat
  | true => 67
  | false => 66
set_option maxRecDepth 20000 in
theorem side_any (w : World) (p : Nat) (b : Bool) : Calls Try.prog 22 #[.pointer (some ⟨p, 0, none⟩), .bool b] w fun e w' => e = .returned (.pointer (some ⟨p, sideO b, none⟩)) ∧ w' = w := by
  cases b
  all_goals
    go_enter Try.func22, Try.ntmps22
    go_wp2
    go_ret
    exact ⟨rfl, rfl⟩

set_option maxRecDepth 20000 in
set_option maxHeartbeats 1000000 in
theorem join_any {w : World} {p : Nat} {x : Pp} (H : PAt w p x) (b : Bool) (h1 : x.r < 1000000) (h2 : x.t < 1000000) : Calls Try.prog 15 #[.pointer (some ⟨p, 0, none⟩), .bool b] w fun e w' => e = .returned (.int .i64 0) ∧ PAt w' p (joS x b) ∧ GrownS w w' (fun k => k = p) := by
  have HS := hide (side_any w p b)
  obtain ⟨c65, c66, c67, hf⟩ := H.cells
  have f66 := hf 66
  have f67 := hf 67
  have e66 := H.set66 (r := x.r + 1) (H.fit.jo false h1 h2)
  have e67 := H.set67 (t := x.t + 1) (H.fit.jo true h1 h2)
  have w1 : IntKind.i64.wrap ((x.r : Int) + 1) = ((x.r + 1 : Nat) : Int) := by rw [IntKind.wrap_i64]; omega
  have w2 : IntKind.i64.wrap ((x.t : Int) + 1) = ((x.t + 1 : Nat) : Int) := by rw [IntKind.wrap_i64]; omega
  obtain ⟨s, r, t⟩ := x
  simp only at *
  obtain ⟨r1, hr1⟩ : ∃ r1, r1 = r + 1 := ⟨_, rfl⟩
  obtain ⟨t1, ht1⟩ : ∃ t1, t1 = t + 1 := ⟨_, rfl⟩
  rw [← hr1] at e66 w1
  rw [← ht1] at e67 w2
  have HR := hide hr1
  have HT := hide ht1
  have E66 := hide e66
  have E67 := hide e67
  clear hf e66 e67 hr1 ht1 H c65 h1 h2
  cases b with
  | true =>
    go_enter Try.func15, Try.ntmps15
    go_wp2_with fail
    refine (unhide HS).mono ?_
    rintro e w5 ⟨rfl, hw5⟩
    rw [show w5 = w from hw5, show sideO true = 67 from rfl]
    clear hw5
    go_wp2
    go_ret
    exact ⟨rfl, by rw [unhide HT] at E67 ⊢; exact unhide E67, own_set _ _ _ _⟩
  | false =>
    go_enter Try.func15, Try.ntmps15
    go_wp2_with fail
    refine (unhide HS).mono ?_
    rintro e w5 ⟨rfl, hw5⟩
    rw [show w5 = w from hw5, show sideO false = 66 from rfl]
    clear hw5
    go_wp2
    go_ret
    exact ⟨rfl, by rw [unhide HR] at E66 ⊢; exact unhide E66, own_set _ _ _ _⟩

set_option maxRecDepth 20000 in
set_option maxHeartbeats 1000000 in
theorem leave_t {w : World} {p : Nat} {x : Pp} (H : PAt w p x) : Calls Try.prog 16 #[.pointer (some ⟨p, 0, none⟩), .bool true] w fun e w' => e = .returned (.int .i64 (leE x true)) ∧ PAt w' p (leS x true) ∧ GrownS w w' (fun k => k = p) := by
  have HS := hide (side_any w p true)
  obtain ⟨c65, c66, c67, hf⟩ := H.cells
  have f65 := hf 65
  have f67 := hf 67
  by_cases h0 : x.t = 0
  · have HH := hide H
    rw [show leE x true = 28 by unfold leE; rw [if_pos (by simpa using h0)], show leS x true = x by
      obtain ⟨s, r, t⟩ := x
      simp only at h0
      subst h0
      rfl]
    rw [h0] at c67
    clear H hf h0
    go_enter Try.func16, Try.ntmps16
    go_wp2_with fail
    refine (unhide HS).mono ?_
    rintro e w5 ⟨rfl, hw5⟩
    rw [show w5 = w from hw5, show sideO true = 67 from rfl]
    clear hw5
    go_wp2
    go_ret
    exact ⟨rfl, unhide HH, grownS_of_below (Below.refl _ _)⟩
  · have hq := H.set67 (t := x.t - 1) (H.fit.le true)
    have k66 := hq.cells.2.1
    have k65 := hq.cells.1
    have q65 := hq.cells.2.2.2 65
    have w2 : IntKind.i64.wrap ((x.t : Int) - 1) = ((x.t - 1 : Nat) : Int) := by have := H.fit.ts; rw [IntKind.wrap_i64]; omega
    rw [show leE x true = 0 by unfold leE; rw [if_neg (by simpa using h0)]]
    have hne : ((x.t : Int) == 0) = false := by simp; omega
    have HL := hide H.fit.lost
    obtain ⟨s, r, t⟩ := x
    simp only at *
    rw [show leS ⟨s, r, t⟩ true = ⟨s, r, t - 1⟩ from rfl]
    obtain ⟨t1, ht1⟩ : ∃ t1, t1 = t - 1 := ⟨_, rfl⟩
    rw [← ht1] at hq w2 k66 k65 q65
    rw [← ht1]
    clear ht1 H hf h0
    by_cases hr : r = 0
    · have HQ := hide (show PAt ((w.setCell ⟨p, 67, none⟩ (.int .i64 (t1 : Int))).setCell ⟨p, 65, none⟩ (.int .i64 0)) p ⟨s, r, t1⟩ from by
        obtain ⟨h1, f, cs, h2⟩ := hq
        exact PAt.of h1 (h2.set65 0) (by rw [show s = [] from unhide HL hr]; rfl))
      have HG := hide ((own_set w p 67 (.int .i64 (t1 : Int))).trans (own_set (w.setCell ⟨p, 67, none⟩ (.int .i64 (t1 : Int))) p 65 (.int .i64 0)))
      clear hq
      subst hr
      go_enter Try.func16, Try.ntmps16
      go_wp2_with fail
      refine (unhide HS).mono ?_
      rintro e w5 ⟨rfl, hw5⟩
      rw [show w5 = w from hw5, show sideO true = 67 from rfl]
      clear hw5
      go_wp2
      go_ret
      exact ⟨rfl, unhide HQ, unhide HG⟩
    · have hn2 : ((r : Int) == 0) = false := by simp; omega
      have HQ := hide hq
      clear hq hr
      go_enter Try.func16, Try.ntmps16
      go_wp2_with fail
      refine (unhide HS).mono ?_
      rintro e w5 ⟨rfl, hw5⟩
      rw [show w5 = w from hw5, show sideO true = 67 from rfl]
      clear hw5
      go_wp2
      go_ret
      exact ⟨rfl, unhide HQ, own_set _ _ _ _⟩

set_option maxRecDepth 20000 in
set_option maxHeartbeats 1000000 in
theorem leave_f {w : World} {p : Nat} {x : Pp} (H : PAt w p x) : Calls Try.prog 16 #[.pointer (some ⟨p, 0, none⟩), .bool false] w fun e w' => e = .returned (.int .i64 (leE x false)) ∧ PAt w' p (leS x false) ∧ GrownS w w' (fun k => k = p) := by
  have HS := hide (side_any w p false)
  obtain ⟨c65, c66, c67, hf⟩ := H.cells
  have f65 := hf 65
  have f66 := hf 66
  by_cases h0 : x.r = 0
  · have HH := hide H
    rw [show leE x false = 28 by unfold leE; rw [if_pos (by simpa using h0)], show leS x false = x by
      have h1 := H.fit.lost h0
      obtain ⟨s, r, t⟩ := x
      simp only at h0 h1
      subst h0 h1
      rfl]
    rw [h0] at c66
    clear H hf h0
    go_enter Try.func16, Try.ntmps16
    go_wp2_with fail
    refine (unhide HS).mono ?_
    rintro e w5 ⟨rfl, hw5⟩
    rw [show w5 = w from hw5, show sideO false = 66 from rfl]
    clear hw5
    go_wp2
    go_ret
    exact ⟨rfl, unhide HH, grownS_of_below (Below.refl _ _)⟩
  · rw [show leE x false = 0 by unfold leE; rw [if_neg (by simpa using h0)]]
    by_cases h1 : x.r = 1
    · have HQ := hide H.last
      have HG := hide ((own_set w p 66 (.int .i64 0)).trans (own_set (w.setCell ⟨p, 66, none⟩ (.int .i64 0)) p 65 (.int .i64 0)))
      have k65 : (w.setCell ⟨p, 66, none⟩ (.int .i64 0)).cell? ⟨p, 65, none⟩ = some (.int .i64 (x.s.length : Int)) := by
        obtain ⟨_, f, cs, h⟩ := H
        exact (h.set66 0).blk.cell _ (h.set66 0).c65
      have k66 : (w.setCell ⟨p, 66, none⟩ (.int .i64 0)).cell? ⟨p, 66, none⟩ = some (.int .i64 0) := by
        obtain ⟨_, f, cs, h⟩ := H
        exact (h.set66 0).blk.cell _ (h.set66 0).c66
      have q65 : (w.setCell ⟨p, 66, none⟩ (.int .i64 0)).frozen? ⟨p, 65, none⟩ = false := by
        obtain ⟨_, f, cs, h⟩ := H
        exact (h.set66 0).blk.frozen _
      rw [h1] at c66
      rw [show leS x false = ⟨[], 0, x.t⟩ by
        obtain ⟨s, r, t⟩ := x
        simp only at h1
        subst h1
        rfl]
      clear H hf h0 h1
      go_enter Try.func16, Try.ntmps16
      go_wp2_with fail
      refine (unhide HS).mono ?_
      rintro e w5 ⟨rfl, hw5⟩
      rw [show w5 = w from hw5, show sideO false = 66 from rfl]
      clear hw5
      go_wp2
      go_ret
      exact ⟨rfl, unhide HQ, unhide HG⟩
    · have e2 : leS x false = ⟨x.s, x.r - 1, x.t⟩ := by
        unfold leS
        simp only [Bool.false_eq_true, if_false]
        rw [if_neg (by omega)]
      have hfit := H.fit.le false
      rw [e2] at hfit
      rw [e2]
      have hq := H.set66 (r := x.r - 1) hfit
      have k66 := hq.cells.2.1
      have w2 : IntKind.i64.wrap ((x.r : Int) - 1) = ((x.r - 1 : Nat) : Int) := by have := H.fit.rs; rw [IntKind.wrap_i64]; omega
      obtain ⟨s, r, t⟩ := x
      simp only at *
      obtain ⟨r1, hr1⟩ : ∃ r1, r1 = r - 1 := ⟨_, rfl⟩
      rw [← hr1] at hq w2 k66
      rw [← hr1]
      have hn1 : ((r : Int) == 0) = false := by simp; omega
      have hn2 : ((r1 : Int) == 0) = false := by simp; omega
      have HQ := hide hq
      clear hq hr1 H hf h0 h1 e2 hfit
      go_enter Try.func16, Try.ntmps16
      go_wp2_with fail
      refine (unhide HS).mono ?_
      rintro e w5 ⟨rfl, hw5⟩
      rw [show w5 = w from hw5, show sideO false = 66 from rfl]
      clear hw5
      go_wp2
      go_ret
      exact ⟨rfl, unhide HQ, own_set _ _ _ _⟩
theorem leave_any {w : World} {p : Nat} {x : Pp} (H : PAt w p x) (b : Bool) : Calls Try.prog 16 #[.pointer (some ⟨p, 0, none⟩), .bool b] w fun e w' => e = .returned (.int .i64 (leE x b)) ∧ PAt w' p (leS x b) ∧ GrownS w w' (fun k => k = p) := by
  cases b
  · exact leave_f H
  · exact leave_t H

set_option maxRecDepth 20000 in
set_option maxHeartbeats 1000000 in
theorem read_any {w : World} {p : Nat} {x : Pp} (H : PAt w p x) (n : Int) : Calls Try.prog 10 #[.pointer (some ⟨p, 0, none⟩), .int .i64 n] w fun e w' => e = .returned (.tuple #[.string (BA (rdT x n)), .int .i64 (rdE x n)]) ∧ PAt w' p (rdS x n) ∧ GrownS w w' (fun k => k = p) := by
  obtain ⟨c65, c66, c67, _⟩ := H.cells
  by_cases hE : rdE x n = 0
  · have h0 : x.r ≠ 0 := fun e => by unfold rdE at hE; rw [if_pos e] at hE; cases hE
    have h1 : ¬ n < 0 := fun e => by unfold rdE at hE; rw [if_neg h0, if_pos e] at hE; cases hE
    have h2 : ¬ (x.s = [] ∧ 0 < x.t ∧ 0 < n) := fun e => by unfold rdE at hE; rw [if_neg h0, if_neg h1, if_pos e] at hE; cases hE
    rw [show rdT x n = x.s.take n.toNat by unfold rdT; rw [if_pos hE], show rdS x n = ⟨x.s.drop n.toNat, x.r, x.t⟩ by unfold rdS; rw [if_pos hE], hE]
    obtain ⟨m, rfl⟩ : ∃ m : Nat, n = m := ⟨n.toNat, by omega⟩
    rw [show (m : Int).toNat = m by omega]
    obtain ⟨k, hk⟩ : ∃ k, k = min m x.s.length := ⟨_, rfl⟩
    have e1 : x.s.take k = x.s.take m := by
      rw [hk]
      rcases Nat.le_total m x.s.length with h | h
      · rw [Nat.min_eq_left h]
      · rw [Nat.min_eq_right h, List.take_length, List.take_of_length_le h]
    have e2 : x.s.drop k = x.s.drop m := by
      rw [hk]
      rcases Nat.le_total m x.s.length with h | h
      · rw [Nat.min_eq_left h]
      · rw [Nat.min_eq_right h, List.drop_length, List.drop_of_length_le h]
    have hr : ((x.r : Int) == 0) = false := by simp; omega
    have hm : ((x.s.length : Int) == 0) = false ∨ (x.s.length = 0 ∧ x.t = 0) ∨ (x.s.length = 0 ∧ (0 : Int) < (x.t : Int) ∧ m = 0) := by
      by_cases hs : x.s = []
      · by_cases ht : x.t = 0
        · exact .inr (.inl ⟨by simp [hs], ht⟩)
        · exact .inr (.inr ⟨by simp [hs], by omega, by
            by_cases hm : m = 0
            · exact hm
            · exact absurd ⟨hs, by omega, by omega⟩ h2⟩)
      · have : 0 < x.s.length := List.length_pos_iff.2 hs
        exact .inl (by simp; omega)
    obtain ⟨T, hT⟩ : ∃ T, T = BA (x.s.take m) := ⟨_, rfl⟩
    rw [← hT]
    obtain ⟨y, hy⟩ : ∃ y : Pp, y = ⟨x.s.drop m, x.r, x.t⟩ := ⟨_, rfl⟩
    rw [← hy]
    have HT : Hid (Calls Try.prog 20 #[.pointer (some ⟨p, 0, none⟩), .int .i64 (k : Int)] w fun e w' => e = .returned (.string T) ∧ PAt w' p y ∧ GrownS w w' (fun k => k = p)) := hide (by
      rw [hT, hy, ← e1, ← e2]
      exact take_any w p x k H (by omega))
    have hn1 : ¬ (m : Int) < 0 := by omega
    have hmin : ((x.s.length : Int) < (m : Int) ∧ k = x.s.length) ∨ (¬ (x.s.length : Int) < (m : Int) ∧ k = m) := by omega
    obtain ⟨s, r, t⟩ := x
    simp only at c65 c66 c67 hr hm hmin
    obtain ⟨l, hl⟩ : ∃ l, l = s.length := ⟨_, rfl⟩
    rw [← hl] at hm hmin c65
    clear hk e1 e2 hT hy hl H hE h0 h1 h2
    rcases hm with hm | ⟨rfl, rfl⟩ | ⟨rfl, hm, rfl⟩ <;> rcases hmin with ⟨m1, rfl⟩ | ⟨m1, rfl⟩ <;> first | (exfalso; omega) | skip
    all_goals
      go_enter Try.func10, Try.ntmps10
      go_wp2_with fail
      refine (unhide HT).mono ?_
      rintro e w5 ⟨rfl, h5, h6⟩
      have H5 := hide h5
      have H6 := hide h6
      clear h5 h6
      go_wp2
      go_ret2
      exact ⟨rfl, unhide H5, unhide H6⟩
  · rw [show rdT x n = [] by unfold rdT; rw [if_neg hE], show rdS x n = x by unfold rdS; rw [if_neg hE]]
    have HH := hide H
    obtain ⟨E, hEE⟩ : ∃ E, E = rdE x n := ⟨_, rfl⟩
    rw [← hEE]
    have hc : (x.r = 0 ∧ E = 28) ∨ (((x.r : Int) == 0) = false ∧ n < 0 ∧ E = 1) ∨ (((x.r : Int) == 0) = false ∧ ¬ n < 0 ∧ x.s.length = 0 ∧ (0 : Int) < (x.t : Int) ∧ 0 < n ∧ E = 30) := by
      unfold rdE at hEE hE
      by_cases h0 : x.r = 0
      · rw [if_pos h0] at hEE
        exact .inl ⟨h0, hEE⟩
      · rw [if_neg h0] at hEE hE
        by_cases h1 : n < 0
        · rw [if_pos h1] at hEE
          exact .inr (.inl ⟨by simp; omega, h1, hEE⟩)
        · rw [if_neg h1] at hEE hE
          by_cases h2 : x.s = [] ∧ 0 < x.t ∧ 0 < n
          · rw [if_pos h2] at hEE
            exact .inr (.inr ⟨by simp; omega, h1, by rw [h2.1]; rfl, by omega, h2.2.2, hEE⟩)
          · rw [if_neg h2] at hE
            exact absurd rfl hE
    obtain ⟨s, r, t⟩ := x
    simp only at c65 c66 c67 hc
    obtain ⟨l, hl⟩ : ∃ l, l = s.length := ⟨_, rfl⟩
    rw [← hl] at hc c65
    clear hl hEE hE H
    rcases hc with ⟨rfl, rfl⟩ | ⟨h0, h1, rfl⟩ | ⟨h0, h1, rfl, h3, h4, rfl⟩
    all_goals
      go_enter Try.func10, Try.ntmps10
      go_wp2
      go_ret2
      exact ⟨rfl, unhide HH, grownS_of_below (Below.refl _ _)⟩

set_option maxRecDepth 20000 in
set_option maxHeartbeats 1000000 in
theorem write_any {w : World} {p : Nat} {x : Pp} (H : PAt w p x) (d : List UInt8) : Calls Try.prog 12 #[.pointer (some ⟨p, 0, none⟩), .string (BA d)] w fun e w' => e = .returned (.tuple #[.int .i64 (wrN x d : Int), .int .i64 (wrE x d)]) ∧ PAt w' p (wrS x d) ∧ GrownS w w' (fun k => k = p) := by
  obtain ⟨c65, c66, c67, _⟩ := H.cells
  have HH := hide H
  obtain ⟨D, hD⟩ : ∃ D, D = BA d := ⟨_, rfl⟩
  have hDs : D.size = d.length := by rw [hD]; rfl
  rw [← hD]
  by_cases ht : x.t = 0
  · rw [show wrN x d = 0 by unfold wrN; rw [if_pos ht], show wrE x d = 28 by unfold wrE; rw [if_pos ht], show wrS x d = x by unfold wrS; rw [if_pos (.inl ht)]]
    rw [ht] at c67
    clear hD H hDs ht
    go_enter Try.func12, Try.ntmps12
    go_wp2
    go_ret2
    exact ⟨rfl, unhide HH, grownS_of_below (Below.refl _ _)⟩
  have hq1 : ((x.t : Int) == 0) = false := by simp; omega
  by_cases hr : x.r = 0
  · rw [show wrN x d = d.length by unfold wrN; rw [if_neg ht, if_pos hr], show wrE x d = 0 by unfold wrE; rw [if_neg ht, if_pos hr], show wrS x d = x by unfold wrS; rw [if_pos (.inr hr)]]
    rw [hr] at c66
    clear hD H hr ht
    go_enter Try.func12, Try.ntmps12
    go_wp2
    go_ret2
    exact ⟨rfl, unhide HH, grownS_of_below (Below.refl _ _)⟩
  have hq2 : ((x.r : Int) == 0) = false := by simp; omega
  have hfew := H.fit.few
  obtain ⟨n, hn⟩ : ∃ n, n = room x d := ⟨_, rfl⟩
  have hN : wrN x d = n := by unfold wrN; rw [if_neg ht, if_neg hr, hn]
  have hS : wrS x d = ⟨x.s ++ d.take n, x.r, x.t⟩ := by unfold wrS; rw [if_neg (by omega), hn]
  have hE : wrE x d = if n = 0 ∧ d ≠ [] then 30 else 0 := by unfold wrE; rw [if_neg ht, if_neg hr, hn]
  rw [hN, hS, hE]
  have hn2 : n = min d.length (64 - x.s.length) := hn
  obtain ⟨rm, hrm⟩ : ∃ rm, rm = 64 - x.s.length := ⟨_, rfl⟩
  have hw : IntKind.i64.wrap (64 - (x.s.length : Int)) = (rm : Int) := by rw [IntKind.wrap_i64]; omega
  have hmin : ((rm : Int) < (d.length : Int) ∧ n = rm) ∨ (¬ (rm : Int) < (d.length : Int) ∧ n = d.length) := by omega
  by_cases h0 : n = 0 ∧ d ≠ []
  · rw [if_pos h0]
    have e0 : (⟨x.s ++ d.take n, x.r, x.t⟩ : Pp) = x := by rw [h0.1, List.take_zero, List.append_nil]
    rw [e0]
    have hne : D.toList.isEmpty = false := by
      rw [hD, ByteArray.toList_eq]
      show d.isEmpty = false
      cases hd : d with
      | nil => exact absurd hd h0.2
      | cons => rfl
    obtain ⟨dl, hdl⟩ : ∃ dl, dl = d.length := ⟨_, rfl⟩
    have hd0 : 0 < dl := by rw [hdl]; exact List.length_pos_iff.2 h0.2
    rw [← hdl] at hDs hmin
    have hrm0 : rm = 0 ∧ n = 0 := by omega
    obtain ⟨r0, n0⟩ := hrm0
    have hm2 : (0 : Int) < (dl : Int) := by omega
    rw [r0] at hw
    rw [n0]
    obtain ⟨l, hl⟩ : ∃ l, l = x.s.length := ⟨_, rfl⟩
    rw [← hl] at hw c65
    clear hl hD hmin hn hn2 hN hS hE h0 hdl H e0 hd0 r0 n0 hfew hrm ht hr
    go_enter Try.func12, Try.ntmps12
    go_wp2
    go_ret2
    exact ⟨rfl, unhide HH, grownS_of_below (Below.refl _ _)⟩
  · rw [if_neg h0]
    have hex : D.extract 0 n = BA (d.take n) := by rw [hD]; exact ext_take d n
    obtain ⟨T, hT⟩ : ∃ T, T = BA (d.take n) := ⟨_, rfl⟩
    rw [← hT] at hex
    obtain ⟨y, hy⟩ : ∃ y : Pp, y = ⟨x.s ++ d.take n, x.r, x.t⟩ := ⟨_, rfl⟩
    rw [← hy]
    have HT : Hid (Calls Try.prog 21 #[.pointer (some ⟨p, 0, none⟩), .string T] w fun e w' => e = .returned (.tuple #[]) ∧ PAt w' p y ∧ GrownS w w' (fun k => k = p)) := hide (by
      rw [hT, hy]
      exact put_any w p x (d.take n) H (by rw [List.length_take]; omega) hr)
    have hc : ((n : Int) == 0) = false ∨ (D.toList.isEmpty = true ∧ n = 0 ∧ d.length = 0 ∧ T = ByteArray.empty) := by
      by_cases hd : d = []
      · refine .inr ⟨by rw [hD, ByteArray.toList_eq, hd]; rfl, ?_, by rw [hd]; rfl, by rw [hT, hd, List.take_nil]; rfl⟩
        rw [hn2, hd]
        simp
      · refine .inl ?_
        have : n ≠ 0 := fun e => h0 ⟨e, hd⟩
        simp
        omega
    have hns : n ≤ D.size := by omega
    obtain ⟨l, hl⟩ : ∃ l, l = x.s.length := ⟨_, rfl⟩
    rw [← hl] at hw c65
    obtain ⟨dl, hdl⟩ : ∃ dl, dl = d.length := ⟨_, rfl⟩
    rw [← hdl] at hDs hmin hc
    clear hl hD hn hn2 hN hS hE h0 hdl H hfew hrm ht hr hT hy
    rcases hc with hc | ⟨he, rfl, rfl, rfl⟩ <;> rcases hmin with ⟨m1, m2⟩ | ⟨m1, m2⟩
    all_goals
      try subst m2
      first
      | (exfalso; omega)
      | skip
    all_goals
      go_enter Try.func12, Try.ntmps12
      go_wp2_with fail
      refine (unhide HT).mono ?_
      rintro e w5 ⟨rfl, h5, h6⟩
      have H5 := hide h5
      have H6 := hide h6
      clear h5 h6
      go_wp2
      go_ret2
      exact ⟨rfl, unhide H5, unhide H6⟩

end Go.Proofs.Ytiaenfnjjlpknaa

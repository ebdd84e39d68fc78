/-
  The document's pipe: New, Read, Write, Join, Leave.
-/
import Derived.Test.YtiaenfnjjlpknaaPpPass
import Derived.BigQuiet
namespace Go.Proofs.Ytiaenfnjjlpknaa
open Go.RowKit

/-- The document's pipe at q has x. -/
def RAt (w : World) (q : Nat) (x : Pp) : Prop := Blk w q 41 #[.string (BA x.s), .int .i64 (x.r : Int), .int .i64 (x.t : Int)]
theorem RAt.cells {w : World} {q : Nat} {x : Pp} (H : RAt w q x) : w.cell? ⟨q, 0, none⟩ = some (.string (BA x.s)) ∧ w.cell? ⟨q, 1, none⟩ = some (.int .i64 (x.r : Int)) ∧ w.cell? ⟨q, 2, none⟩ = some (.int .i64 (x.t : Int)) ∧ ∀ k, w.frozen? ⟨q, k, none⟩ = false :=
  ⟨Blk.cell H 0 rfl, Blk.cell H 1 rfl, Blk.cell H 2 rfl, fun k => Blk.frozen H k⟩
theorem RAt.set0 {w : World} {q : Nat} {x : Pp} (H : RAt w q x) (s : List UInt8) : RAt (w.setCell ⟨q, 0, none⟩ (.string (BA s))) q ⟨s, x.r, x.t⟩ := Blk.set H 0 _
theorem RAt.set1 {w : World} {q : Nat} {x : Pp} (H : RAt w q x) (r : Nat) : RAt (w.setCell ⟨q, 1, none⟩ (.int .i64 (r : Int))) q ⟨x.s, r, x.t⟩ := Blk.set H 1 _
theorem RAt.set2 {w : World} {q : Nat} {x : Pp} (H : RAt w q x) (t : Nat) : RAt (w.setCell ⟨q, 2, none⟩ (.int .i64 (t : Int))) q ⟨x.s, x.r, t⟩ := Blk.set H 2 _

set_option maxRecDepth 20000 in
theorem rnew_any (w : World) : Calls Try.prog 8 #[] w fun e w' => ∃ q, e = .returned (.pointer (some ⟨q, 0, none⟩)) ∧ RAt w' q np0 ∧ Below w.heap.size w w' ∧ w.heap.size ≤ q := by
  have HB : Hid (RAt (w.alloc (.cells #[.string ⟨#[]⟩, .int .i64 1, .int .i64 1] 41)) w.heap.size np0 ∧ Below w.heap.size w (w.alloc (.cells #[.string ⟨#[]⟩, .int .i64 1, .int .i64 1] 41))) := hide ⟨Blk.new _ _ _, (Below.refl _ _).alloc (Nat.le_refl _) _⟩
  have zr : (zeroValue 41).run Try.prog w = .ok (.agg #[.string ⟨#[]⟩, .int .i64 0, .int .i64 0]) w := by kernel_rfl
  go_enter Try.func8, Try.ntmps8
  go_wp2
  go_ret
  exact ⟨w.heap.size, rfl, (unhide HB).1, (unhide HB).2, Nat.le_refl _⟩

set_option maxRecDepth 20000 in
set_option maxHeartbeats 1000000 in
theorem rjoin_any {w : World} {q : Nat} {x : Pp} (H : RAt w q x) (b : Bool) (h1 : x.r < 1000000) (h2 : x.t < 1000000) : Calls Try.prog 14 #[.pointer (some ⟨q, 0, none⟩), .bool b] w fun e w' => e = .returned (.tuple #[]) ∧ RAt w' q (joS x b) ∧ GrownS w w' (fun k => k = q) := by
  obtain ⟨c0, c1, c2, hf⟩ := H.cells
  have f1 := hf 1
  have f2 := hf 2
  have e1 := H.set1 (x.r + 1)
  have e2 := H.set2 (x.t + 1)
  have w1 : IntKind.i64.wrap ((x.r : Int) + 1) = ((x.r + 1 : Nat) : Int) := by rw [IntKind.wrap_i64]; omega
  have w2 : IntKind.i64.wrap ((x.t : Int) + 1) = ((x.t + 1 : Nat) : Int) := by rw [IntKind.wrap_i64]; omega
  obtain ⟨s, r, t⟩ := x
  simp only at c0 c1 c2 e1 e2 w1 w2
  obtain ⟨r1, hr1⟩ : ∃ r1, r1 = r + 1 := ⟨_, rfl⟩
  obtain ⟨t1, ht1⟩ : ∃ t1, t1 = t + 1 := ⟨_, rfl⟩
  rw [← hr1] at e1 w1
  rw [← ht1] at e2 w2
  have HR := hide hr1
  have HT := hide ht1
  have E1 := hide e1
  have E2 := hide e2
  clear hf e1 e2 hr1 ht1 H h1 h2
  cases b with
  | true =>
    go_enter Try.func14, Try.ntmps14
    go_wp2
    refine bodyPost_end (res0 rfl _ _) rfl ?_
    exact ⟨rfl, by rw [unhide HT] at E2 ⊢; exact unhide E2, own_set _ _ _ _⟩
  | false =>
    go_enter Try.func14, Try.ntmps14
    go_wp2
    refine bodyPost_end (res0 rfl _ _) rfl ?_
    exact ⟨rfl, by rw [unhide HR] at E1 ⊢; exact unhide E1, own_set _ _ _ _⟩

set_option maxRecDepth 20000 in
set_option maxHeartbeats 1000000 in
theorem rleave_t {w : World} {q : Nat} {x : Pp} (H : RAt w q x) (hx : Fit x) : Calls Try.prog 17 #[.pointer (some ⟨q, 0, none⟩), .bool true] w fun e w' => e = .returned (.int .i64 (leE x true)) ∧ RAt w' q (leS x true) ∧ GrownS w w' (fun k => k = q) := by
  obtain ⟨c0, c1, c2, hf⟩ := H.cells
  have f2 := hf 2
  by_cases h0 : x.t = 0
  · have HH := hide H
    rw [show leE x true = 28 by unfold leE; rw [if_pos (by simpa using h0)], show leS x true = x by
      obtain ⟨s, r, t⟩ := x
      simp only at h0
      subst h0
      rfl]
    rw [h0] at c2
    clear H hf h0
    go_enter Try.func17, Try.ntmps17
    go_wp2
    go_ret
    exact ⟨rfl, unhide HH, grownS_of_below (Below.refl _ _)⟩
  · have hq := H.set2 (x.t - 1)
    have w2 : IntKind.i64.wrap ((x.t : Int) - 1) = ((x.t - 1 : Nat) : Int) := by have := hx.ts; rw [IntKind.wrap_i64]; omega
    rw [show leE x true = 0 by unfold leE; rw [if_neg (by simpa using h0)]]
    have hne : ((x.t : Int) == 0) = false := by simp; omega
    obtain ⟨s, r, t⟩ := x
    simp only at c0 c1 c2 hq w2 hne
    rw [show leS ⟨s, r, t⟩ true = ⟨s, r, t - 1⟩ from rfl]
    obtain ⟨t1, ht1⟩ : ∃ t1, t1 = t - 1 := ⟨_, rfl⟩
    rw [← ht1] at hq w2
    rw [← ht1]
    have HQ := hide hq
    clear ht1 H hf h0 hq hx
    go_enter Try.func17, Try.ntmps17
    go_wp2
    go_ret
    exact ⟨rfl, unhide HQ, own_set _ _ _ _⟩
set_option maxRecDepth 20000 in
set_option maxHeartbeats 1000000 in
theorem rleave_f {w : World} {q : Nat} {x : Pp} (H : RAt w q x) (hx : Fit x) : Calls Try.prog 17 #[.pointer (some ⟨q, 0, none⟩), .bool false] w fun e w' => e = .returned (.int .i64 (leE x false)) ∧ RAt w' q (leS x false) ∧ GrownS w w' (fun k => k = q) := by
  obtain ⟨c0, c1, c2, hf⟩ := H.cells
  have f0 := hf 0
  have f1 := hf 1
  by_cases h0 : x.r = 0
  · have HH := hide H
    rw [show leE x false = 28 by unfold leE; rw [if_pos (by simpa using h0)], show leS x false = x by
      have h1 := hx.lost h0
      obtain ⟨s, r, t⟩ := x
      simp only at h0 h1
      subst h0 h1
      rfl]
    rw [h0] at c1
    clear H hf h0 hx
    go_enter Try.func17, Try.ntmps17
    go_wp2
    go_ret
    exact ⟨rfl, unhide HH, grownS_of_below (Below.refl _ _)⟩
  · have hq := H.set1 (x.r - 1)
    have k0 := hq.cells.1
    have k1 := hq.cells.2.1
    have g0 := hq.cells.2.2.2 0
    have w2 : IntKind.i64.wrap ((x.r : Int) - 1) = ((x.r - 1 : Nat) : Int) := by have := hx.rs; rw [IntKind.wrap_i64]; omega
    rw [show leE x false = 0 by unfold leE; rw [if_neg (by simpa using h0)]]
    have hne : ((x.r : Int) == 0) = false := by simp; omega
    obtain ⟨s, r, t⟩ := x
    simp only at c0 c1 c2 hq w2 hne h0 k0 k1
    by_cases h1 : r = 1
    · subst h1
      have HQ := hide (hq.set0 [])
      have HG := hide ((own_set w q 1 (.int .i64 0)).trans (own_set (w.setCell ⟨q, 1, none⟩ (.int .i64 0)) q 0 (.string (BA []))))
      rw [show leS ⟨s, 1, t⟩ false = ⟨[], 0, t⟩ from rfl]
      simp only [Nat.sub_self] at HQ k0 k1 g0 w2
      clear H hf h0 hq hx hne
      go_enter Try.func17, Try.ntmps17
      go_wp2
      go_ret
      exact ⟨rfl, unhide HQ, unhide HG⟩
    · rw [show leS ⟨s, r, t⟩ false = ⟨s, r - 1, t⟩ by
        unfold leS
        simp only [Bool.false_eq_true, if_false]
        rw [if_neg (by omega)]]
      obtain ⟨r1, hr1⟩ : ∃ r1, r1 = r - 1 := ⟨_, rfl⟩
      have hn2 : ((r1 : Int) == 0) = false := by simp; omega
      rw [← hr1] at hq w2 k0 k1 g0
      rw [← hr1]
      have HQ := hide hq
      clear hr1 H hf h0 hq hx h1
      go_enter Try.func17, Try.ntmps17
      go_wp2
      go_ret
      exact ⟨rfl, unhide HQ, own_set _ _ _ _⟩
theorem rleave_any {w : World} {q : Nat} {x : Pp} (H : RAt w q x) (hx : Fit x) (b : Bool) : Calls Try.prog 17 #[.pointer (some ⟨q, 0, none⟩), .bool b] w fun e w' => e = .returned (.int .i64 (leE x b)) ∧ RAt w' q (leS x b) ∧ GrownS w w' (fun k => k = q) := by
  cases b
  · exact rleave_f H hx
  · exact rleave_t H hx

end Go.Proofs.Ytiaenfnjjlpknaa

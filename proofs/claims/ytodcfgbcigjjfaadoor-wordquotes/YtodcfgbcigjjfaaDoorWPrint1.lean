/-
  A plain Var in quotes is written: the chapter's example of Print.
-/
import Derived.Test.YtodcfgbcigjjfaaDoorWPage
import Derived.Test.YtodcfgbcigjjfaaDoorWSame
namespace Go.Proofs.YtodcfgbcigjjfaaDoor
open Go.RowKit

set_option maxRecDepth 20000 in
set_option maxHeartbeats 8000000 in
theorem sign_zero (w : World) (he : WEnv w) : Calls Tryd.prog 60 #[.int .i64 0] w fun e w' => e = .returned (.string ⟨#[]⟩) ∧ Below w.heap.size w w' := by
  have a0 := he.sg 0 (by decide)
  have a1 := he.sg 1 (by decide)
  have a2 := he.sg 2 (by decide)
  have a3 := he.sg 3 (by decide)
  have a4 := he.sg 4 (by decide)
  have a5 := he.sg 5 (by decide)
  have a6 := he.sg 6 (by decide)
  have a7 := he.sg 7 (by decide)
  have a8 := he.sg 8 (by decide)
  have a9 := he.sg 9 (by decide)
  have a10 := he.sg 10 (by decide)
  have a11 := he.sg 11 (by decide)
  have a12 := he.sg 12 (by decide)
  have a13 := he.sg 13 (by decide)
  have a14 := he.sg 14 (by decide)
  have a15 := he.sg 15 (by decide)
  simp only [List.getElem?_cons_zero, List.getElem?_cons_succ] at a0 a1 a2 a3 a4 a5 a6 a7 a8 a9 a10 a11 a12 a13 a14 a15
  clear he
  go_enter Tryd.func60, Tryd.ntmps60
  go_wp2_with fail
  go_loopw [6] (fun x wr => ∃ k : Int, x = .int .i64 k ∧ 0 ≤ k ∧ k ≤ 8 ∧ Hid (Below w.heap.size w wr)) (fun x _ => 8 - (intOf x).toNat)
  case atStart => exact ⟨0, rfl, by decide, by decide, hide (Below.refl _ _)⟩
  case round =>
    clear a0 a1 a2 a3 a4 a5 a6 a7 a8 a9 a10 a11 a12 a13 a14 a15
    obtain ⟨k, rfl, hk0, hk1, HB⟩ := hrel
    by_cases hk8 : k = 8
    · subst hk8
      go_wp2
      go_ret
      exact ⟨rfl, unhide HB⟩
    have hcs : k = 0 ∨ k = 1 ∨ k = 2 ∨ k = 3 ∨ k = 4 ∨ k = 5 ∨ k = 6 ∨ k = 7 := by omega
    clear hk0 hk1 hk8
    rcases hcs with rfl | rfl | rfl | rfl | rfl | rfl | rfl | rfl
    all_goals
      have hidx0 := sidx0 wr
      have hidx1 := sidx1 wr
      have hidx2 := sidx2 wr
      have hidx3 := sidx3 wr
      have hidx4 := sidx4 wr
      have hidx5 := sidx5 wr
      have hidx6 := sidx6 wr
      have hidx7 := sidx7 wr
      go_wp2
      go_roundw
      case rel => exact ⟨_, rfl, by decide, by decide, hide ((unhide HB).alloc (unhide HB).size _)⟩
      case measure => simp [intOf]

theorem Pg.keep {w w1 : World} {b : Nat} {X : Nat → Prop} {l : List UInt8} (h : Puts w b X l w1) : ∃ X1, Pg w1 b X1 l ∧ GrownS w w1 X ∧ ∀ k, X1 k → X k ∨ w.heap.size ≤ k := h
/-- A block that is no part of the page stands on. -/
theorem blk_puts {w w1 : World} {q : Nat} {X X1 : Nat → Prop} {t : TypeId} {cs : Array Value} (hb : Blk w q t cs) (hg : GrownS w w1 X) (hx : ∀ k, X1 k → X k ∨ w.heap.size ≤ k) (hq : ¬ X q) : Blk w1 q t cs ∧ ¬ X1 q :=
  ⟨hb.grownS hg hq, fun e => by
    rcases hx q e with e | e
    · exact hq e
    · have := hb.lt; omega⟩
/-- A text that is laid down anew, and written. -/
theorem put_new (t : List UInt8) (w : World) (n b : Nat) (X : Nat → Prop) (l : List UInt8) (hn : w.heap.size = n) (h : Pg w b X l) (hl : l.length + t.length ≤ 1000000) :
    Calls Tryd.prog 37 #[.pointer (some ⟨b, 0, none⟩), .slice (some ⟨n, 0, none⟩) 1 1] (w.alloc (.cells #[.string (BA t)] 9)) fun e w' => e = .returned (.tuple #[]) ∧ Puts w b X (l ++ t) w' := by
  subst hn
  exact (put_any t _ b w.heap.size X l (h.below ((Below.refl _ _).alloc (Nat.le_refl _) _)) ((Blk.new w _ _).cell 0 rfl) hl).mono (fun _ _ ⟨h1, h2⟩ => ⟨h1, h2.of_below ((Below.refl _ _).alloc (Nat.le_refl _) _)⟩)

end Go.Proofs.YtodcfgbcigjjfaaDoor

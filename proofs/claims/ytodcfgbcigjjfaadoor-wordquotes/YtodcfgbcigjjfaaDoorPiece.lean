/-
  The program's 'Piece'.
-/
import Derived.Test.YtodcfgbcigjjfaaDoorThingW
namespace Go.Proofs.YtodcfgbcigjjfaaDoor
open Go.RowKit

/-- Where a thing ends, or what is wrong, and where. -/
def pieceS (s : ByteArray) (a : Int) (q : Bool) : Int × Int × Int :=
  if a < 0 ∨ (s.size : Int) ≤ a then (0, 0, 1) else match thg (3 * s.size + 3) (s.data.toList.drop a.toNat) (if q then 1 else 0) 0 with
    | .ok r => (((s.size - r.length : Nat) : Int), 0, 0)
    | .err e m => (0, ((s.size - m.length : Nat) : Int), e)

theorem new_rdr (w : World) (s : ByteArray) (p : Nat) (hp : p ≤ s.size) (hs : s.size ≤ 100000) :
    Rdr (w.alloc (.cells #[.int .i64 0, .string s, .int .i64 (p : Int), .int .i64 0, .int .i64 0] 110)) w.heap.size 110 [] s p 0 0 0 := ⟨Blk.new w _ _, hp, hs, by omega⟩
/-- What is left tells the place. -/
theorem place_left {s : ByteArray} {q : Nat} {r : List UInt8} (h : s.data.toList.drop q = r) (hq : q ≤ s.size) : s.size - r.length = q := by rw [← h]; exact place_of hq

set_option maxRecDepth 20000 in
set_option maxHeartbeats 4000000 in
theorem piece_any (s : ByteArray) (a : Int) (q : Bool) (w : World) (hs : s.size ≤ 100000) :
    Calls Tryd.prog 67 #[.string s, .int .i64 a, .bool q] w fun e w' => e = .returned (.tuple #[.int .i64 (pieceS s a q).1, .int .i64 (pieceS s a q).2.1, .int .i64 (pieceS s a q).2.2]) ∧ Below w.heap.size w w' := by
  by_cases h0 : a < 0
  · have hp : pieceS s a q = (0, 0, 1) := by unfold pieceS; rw [if_pos (.inl h0)]
    rw [hp]
    clear hp
    go_enter Tryd.func67, Tryd.ntmps67
    go_wp2
    go_ret3
    exact ⟨rfl, Below.refl _ _⟩
  by_cases h1 : (s.size : Int) ≤ a
  · have hp : pieceS s a q = (0, 0, 1) := by unfold pieceS; rw [if_pos (.inr h1)]
    rw [hp]
    clear hp
    go_enter Tryd.func67, Tryd.ntmps67
    go_wp2
    go_ret3
    exact ⟨rfl, Below.refl _ _⟩
  obtain ⟨p, rfl⟩ : ∃ p : Nat, a = (p : Int) := ⟨a.toNat, by omega⟩
  have hpl : p < s.size := by omega
  have hpe : pieceS s (p : Int) q = match thg (3 * s.size + 3) (s.data.toList.drop p) (if q then 1 else 0) 0 with
    | .ok r => (((s.size - r.length : Nat) : Int), 0, 0)
    | .err e m => (0, ((s.size - m.length : Nat) : Int), e) := by
    unfold pieceS
    rw [if_neg (by omega)]
    simp
  have hR := new_rdr w s p (by omega) hs
  obtain ⟨wh, hwh⟩ : ∃ x : Nat, x = (if q then 1 else 0) := ⟨_, rfl⟩
  rw [← hwh] at hpe
  have HTH := hide (thing_all s.size _ _ _ _ s p 0 wh (3 * s.size + 3) hR hpl (by omega) (by rw [hwh]; split <;> decide) (by omega))
  obtain ⟨T, hT⟩ : ∃ x, x = thg (3 * s.size + 3) (s.data.toList.drop p) wh 0 := ⟨_, rfl⟩
  rw [← hT] at HTH hpe
  have HPE := hide hpe
  have HWH := hide hwh
  clear hpe hR hT hwh
  cases q
  · have hw0 : wh = 0 := unhide HWH
    subst hw0
    go_enter Tryd.func67, Tryd.ntmps67
    go_wp2_with fail
    refine (unhide HTH 0 rfl).mono ?_
    intro en w5 h5
    obtain ⟨he, g5, h5⟩ := h5
    subst he
    have HB5 := hide (((Below.refl _ w).alloc (Nat.le_refl _) _).trans (below_some g5 (by simp)))
    have hpe := unhide HPE
    rcases T with r | ⟨e, m⟩
    · obtain ⟨q1, hq1, hr5⟩ := h5
      have hpl5 := place_left hq1 hr5.le
      simp only [] at hpe
      rw [hpl5] at hpe
      have HPE2 := hide hpe
      have c2 := hr5.c2
      have c3 := hr5.c3
      clear hpe hq1 hr5 hpl5 g5
      go_wp2
      go_ret3
      rw [unhide HPE2]
      exact ⟨rfl, unhide HB5⟩
    · obtain ⟨q1, d1, he0, hr5⟩ := h5
      simp only [] at hpe
      have HPE2 := hide hpe
      obtain ⟨bb, hbb⟩ : ∃ x : Int, x = ((s.size - m.length : Nat) : Int) := ⟨_, rfl⟩
      rw [← hbb] at HPE2 hr5
      have c3 := hr5.c3
      have c4 := hr5.c4
      have he1 : (e == 0) = false := by simpa using he0
      clear hpe hr5 g5 hbb he0
      go_wp2_with fail
      go_quiet (fail)
      go_wp2
      go_ret3
      rw [unhide HPE2]
      exact ⟨rfl, (unhide HB5).trans ((below_of_grown (grown_drewN w5 _)).mono (unhide HB5).size)⟩
  · have hw0 : wh = 1 := unhide HWH
    subst hw0
    go_enter Tryd.func67, Tryd.ntmps67
    go_wp2_with fail
    refine (unhide HTH 1 rfl).mono ?_
    intro en w5 h5
    obtain ⟨he, g5, h5⟩ := h5
    subst he
    have HB5 := hide (((Below.refl _ w).alloc (Nat.le_refl _) _).trans (below_some g5 (by simp)))
    have hpe := unhide HPE
    rcases T with r | ⟨e, m⟩
    · obtain ⟨q1, hq1, hr5⟩ := h5
      have hpl5 := place_left hq1 hr5.le
      simp only [] at hpe
      rw [hpl5] at hpe
      have HPE2 := hide hpe
      have c2 := hr5.c2
      have c3 := hr5.c3
      clear hpe hq1 hr5 hpl5 g5
      go_wp2
      go_ret3
      rw [unhide HPE2]
      exact ⟨rfl, unhide HB5⟩
    · obtain ⟨q1, d1, he0, hr5⟩ := h5
      simp only [] at hpe
      have HPE2 := hide hpe
      obtain ⟨bb, hbb⟩ : ∃ x : Int, x = ((s.size - m.length : Nat) : Int) := ⟨_, rfl⟩
      rw [← hbb] at HPE2 hr5
      have c3 := hr5.c3
      have c4 := hr5.c4
      have he1 : (e == 0) = false := by simpa using he0
      clear hpe hr5 g5 hbb he0
      go_wp2_with fail
      go_quiet (fail)
      go_wp2
      go_ret3
      rw [unhide HPE2]
      exact ⟨rfl, (unhide HB5).trans ((below_of_grown (grown_drewN w5 _)).mono (unhide HB5).size)⟩
end Go.Proofs.YtodcfgbcigjjfaaDoor

/-
  The document's 'Piece' answers what the program's does.
-/
import Derived.Test.YtlmpdfeidjnmnaaDoorRThingW
namespace Go.Proofs.YtlmpdfeidjnmnaaDoor
open Go.RowKit

theorem AtV_pair (s : ByteArray) (T : Rs) : AtV s T = .agg #[.int .i64 (match T with
      | .ok r => (((s.size - r.length : Nat) : Int), (0 : Int), (0 : Int))
      | .err e m => (0, ((s.size - m.length : Nat) : Int), e)).1, .int .i64 (match T with
      | .ok r => (((s.size - r.length : Nat) : Int), (0 : Int), (0 : Int))
      | .err e m => (0, ((s.size - m.length : Nat) : Int), e)).2.1, .int .i64 (match T with
      | .ok r => (((s.size - r.length : Nat) : Int), (0 : Int), (0 : Int))
      | .err e m => (0, ((s.size - m.length : Nat) : Int), e)).2.2] := by
  cases T <;> rfl
set_option maxRecDepth 20000 in
set_option maxHeartbeats 4000000 in
theorem rpiece_any (s : ByteArray) (a : Int) (q : Bool) (w : World) (hs : s.size ≤ 100000) :
    Calls Tryd.prog 11 #[.string s, .int .i64 a, .bool q] w fun e w' => e = .returned (.tuple #[.int .i64 (pieceS s a q).1, .int .i64 (pieceS s a q).2.1, .int .i64 (pieceS s a q).2.2]) ∧ Below w.heap.size w w' := by
  by_cases h0 : a < 0
  · have hp : pieceS s a q = (0, 0, 1) := by unfold pieceS; rw [if_pos (.inl h0)]
    rw [hp]
    clear hp
    go_enter Tryd.func11, Tryd.ntmps11
    go_wp2
    go_ret3
    exact ⟨rfl, Below.refl _ _⟩
  by_cases h1 : (s.size : Int) ≤ a
  · have hp : pieceS s a q = (0, 0, 1) := by unfold pieceS; rw [if_pos (.inr h1)]
    rw [hp]
    clear hp
    go_enter Tryd.func11, Tryd.ntmps11
    go_wp2
    go_ret3
    exact ⟨rfl, Below.refl _ _⟩
  obtain ⟨p, rfl⟩ : ∃ p : Nat, a = (p : Int) := ⟨a.toNat, by omega⟩
  have hpl : p < s.size := by omega
  have hpe : pieceS s (p : Int) q = match thg (3 * s.size + 3) (s.data.toList.drop p) (if q then 1 else 0) 0 with
    | .ok r => (((s.size - r.length : Nat) : Int), 0, 0)
    | .err e m => (0, ((s.size - m.length : Nat) : Int), e) := by
    unfold pieceS
    rw [if_neg (by omega)]
    rfl
  obtain ⟨wh, hwh⟩ : ∃ x : Nat, x = (if q then 1 else 0) := ⟨_, rfl⟩
  rw [← hwh] at hpe
  have HTH := hide (fun (wv dv : Int) (h1 : wv = (wh : Int)) (h2 : dv = ((0 : Nat) : Int)) => rthing_all s.size w s p 0 wh (3 * s.size + 3) hpl hs (by omega) (by rw [hwh]; split <;> decide) (by omega) (by omega) wv dv h1 h2)
  rw [AtV_pair, ← hpe] at HTH
  obtain ⟨⟨x, y, z⟩, hT⟩ : ∃ x, x = pieceS s (p : Int) q := ⟨_, rfl⟩
  rw [← hT] at HTH ⊢
  have HWH := hide hwh
  clear hpe hT hwh
  cases q
  · have hw0 : wh = 0 := unhide HWH
    subst hw0
    go_enter Tryd.func11, Tryd.ntmps11
    go_wp2_with fail
    refine (unhide HTH 0 0 rfl rfl).mono ?_
    rintro en w5 ⟨rfl, b5⟩
    have HB5 := hide b5
    clear b5
    go_wp2_with fail
    go_quiet (fail)
    go_wp2
    go_ret3
    exact ⟨rfl, (unhide HB5).trans ((((Below.refl _ w5).alloc (Nat.le_refl _) _).mono (unhide HB5).size).trans ((below_of_grown (grown_drewN _ _)).mono (by have := (unhide HB5).size; simp; omega)))⟩
  · have hw0 : wh = 1 := unhide HWH
    subst hw0
    go_enter Tryd.func11, Tryd.ntmps11
    go_wp2_with fail
    refine (unhide HTH 1 0 rfl rfl).mono ?_
    rintro en w5 ⟨rfl, b5⟩
    have HB5 := hide b5
    clear b5
    go_wp2_with fail
    go_quiet (fail)
    go_wp2
    go_ret3
    exact ⟨rfl, (unhide HB5).trans ((((Below.refl _ w5).alloc (Nat.le_refl _) _).mono (unhide HB5).size).trans ((below_of_grown (grown_drewN _ _)).mono (by have := (unhide HB5).size; simp; omega)))⟩

end Go.Proofs.YtlmpdfeidjnmnaaDoor

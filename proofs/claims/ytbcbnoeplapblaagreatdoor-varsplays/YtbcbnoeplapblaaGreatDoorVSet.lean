/-
  Package vars: Set, Unset, Export, Readonly.
-/
import Derived.Test.YtbcbnoeplapblaaGreatDoorVPut
namespace Go.Proofs.YtbcbnoeplapblaaGreatDoor
open Go.RowKit Go.Maps

set_option maxRecDepth 20000 in
set_option maxHeartbeats 4000000 in
theorem set_any (b : Nat) (X : Nat → Prop) (s : VSt) (n val : List UInt8) (w : World) (hX : ∀ k, w.heap.size ≤ k → X k) (h : VAt w b X s) (hn : n.length ≤ 100000) (hL : s.L.length ≤ 1000) :
    Calls Tryz.prog 21 #[.pointer (some ⟨b, 0, none⟩), .string (BA n), .string (BA val)] w fun e w' => e = .returned (.int .i64 (setS s n val).2) ∧ VAt w' b X (setS s n val).1 ∧ GrownS w w' X := by
  have HN := hide (mayTurn_any b X s n w h hn)
  have HE : mayT s n ≠ 0 → setS s n val = (s, mayT s n) := by
    unfold mayT setS
    intro hne
    split
    · rfl
    · rename_i h1
      rw [if_neg h1] at hne
      split
      · rfl
      · rename_i h2
        rw [if_neg h2] at hne
        exact absurd rfl hne
  have HO : mayT s n = 0 → setS s n val = ({ s with L := putL s.L { getL s.L n with name := n, value := val, set := true } }, 0) := by
    unfold mayT setS
    intro h0
    split
    · rename_i h1
      rw [if_pos h1] at h0
      cases h0
    · rename_i h1
      rw [if_neg h1] at h0
      split
      · rename_i h2
        rw [if_pos h2] at h0
        cases h0
      · rfl
  obtain ⟨er, her⟩ : ∃ er, er = mayT s n := ⟨_, rfl⟩
  rw [← her] at HN HE HO
  by_cases h0 : er = 0
  · rw [HO h0]
    subst h0
    have hV := h
    obtain ⟨v, m, hb, ha, hm, x1, x2, x3⟩ := h
    have hl := hm.look n (by unfold maxLen; omega)
    obtain ⟨⟨xn, xv, xs, xe, xr⟩, hx⟩ : ∃ x, x = getL s.L n := ⟨_, rfl⟩
    rw [← hx] at hl ⊢
    have c2 : w.cell? ⟨b, 2, none⟩ = some (.map m) := hb.cell 2 rfl
    have HP : Hid (∀ W, Below w.heap.size w W → Calls Tryz.prog 44 #[.pointer (some ⟨b, 0, none⟩), .string (BA n), .agg #[.string (BA xn), .string (BA val), .bool true, .bool xe, .bool xr]] W fun e w' => e = .returned (.tuple #[]) ∧ VAt w' b X { s with L := putL s.L ⟨n, val, true, xe, xr⟩ } ∧ GrownS W w' X) := hide (fun W hW => put_any b X s xn ⟨n, val, true, xe, xr⟩ W (fun k hk => hX k (Nat.le_trans hW.size hk)) (hV.below hW) hn hL)
    unfold Vr.val at hl
    simp only at hl ⊢
    clear hb ha hm x1 x2 x3 hx hV HE HO her hX hn
    go_enter Tryz.func21, Tryz.ntmps21
    go_wp2_with fail
    refine (unhide HN).mono ?_
    rintro e w1 ⟨rfl, rfl⟩
    go_wp2_with fail
    refine (unhide HP _ ((Below.refl _ _).alloc (Nat.le_refl _) _)).mono ?_
    rintro e w2 ⟨rfl, hv2, hg2⟩
    have HV2 := hide hv2
    have HG2 := hide hg2
    clear hv2 hg2
    go_wp2
    go_ret
    exact ⟨rfl, unhide HV2, (grownS_of_below ((Below.refl _ _).alloc (Nat.le_refl _) _)).trans (unhide HG2)⟩
  · rw [HE h0]
    have HV := hide h
    have hne : (er != 0) = true := by simpa using h0
    clear HE HO h her h0 hX
    go_enter Tryz.func21, Tryz.ntmps21
    go_wp2_with fail
    refine (unhide HN).mono ?_
    rintro e w1 ⟨rfl, rfl⟩
    go_wp2
    go_ret
    exact ⟨rfl, unhide HV, grownS_of_below (Below.refl _ _)⟩
set_option maxRecDepth 20000 in
set_option maxHeartbeats 4000000 in
theorem set_nil (n val : List UInt8) (w : World) : Calls Tryz.prog 21 #[.pointer none, .string (BA n), .string (BA val)] w fun e w' => e = .returned (.int .i64 2) ∧ w' = w := by
  go_enter Tryz.func21, Tryz.ntmps21
  go_wp2_with fail
  refine (mayTurn_nil n w).mono ?_
  rintro e w1 ⟨rfl, rfl⟩
  go_wp2
  go_ret
  exact ⟨rfl, rfl⟩

end Go.Proofs.YtbcbnoeplapblaaGreatDoor

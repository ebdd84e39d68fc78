/-
  Package vars: Export, Readonly, Unset.
-/
import Derived.Test.YtbcbnoeplapblaaGreatDoorVPut
namespace Go.Proofs.YtbcbnoeplapblaaGreatDoor
open Go.RowKit Go.Maps

/-- delete(m, name). -/
theorem MOwn.drop {w : World} {m : Option Nat} {L : List Vr} (h : MOwn w m L) (n : List UInt8) (hn : n.length ≤ maxLen) :
    ∃ w', (Builtin.delete_ #[53, 9] 0 #[.map m, .string (BA n)]).run Tryz.prog w = .ok (.tuple #[]) w' ∧ MOwn w' m (delL L n) ∧ GrownS w w' (fun k => m = some k) := by
  rcases h with ⟨rfl, rfl⟩ | ⟨r, rfl, ho⟩
  · exact ⟨w, Go.Maps.drop_nil strKeyed und_map (hk_str n hn) 0, .inl ⟨rfl, rfl⟩, grownS_of_below (Below.refl _ _)⟩
  · obtain ⟨w', h1, h2, h3⟩ := ho.drop strKeyed und_map (hk_str n hn) 0
    exact ⟨w', h1, .inr ⟨r, rfl, owns_len (by rw [drop_enc] at h2; exact h2)⟩, GrownS.of h3.grown (fun k e => e.symm)⟩
set_option maxRecDepth 20000 in
set_option maxHeartbeats 4000000 in
theorem export_any (b : Nat) (X : Nat → Prop) (s : VSt) (n : List UInt8) (w : World) (hX : ∀ k, w.heap.size ≤ k → X k) (h : VAt w b X s) (hn : n.length ≤ 100000) (hL : s.L.length ≤ 1000) :
    Calls Tryz.prog 27 #[.pointer (some ⟨b, 0, none⟩), .string (BA n)] w fun e w' => e = .returned (.int .i64 (expS s n).2) ∧ VAt w' b X (expS s n).1 ∧ GrownS w w' X := by
  have HN := hide (mayName_any b n w hn)
  cases hq : namL n with
  | true =>
    rw [show mayN n = 0 by unfold mayN; rw [hq]; rfl] at HN
    rw [show expS s n = ({ s with L := putL s.L { getL s.L n with name := n, ex := true } }, 0) by unfold expS; rw [hq]; rfl]
    have hV := h
    obtain ⟨v, m, hb, ha, hm, x1, x2, x3⟩ := h
    have hl := hm.look n (by unfold maxLen; omega)
    obtain ⟨⟨xn, xv, xs, xe, xr⟩, hx⟩ : ∃ x, x = getL s.L n := ⟨_, rfl⟩
    rw [← hx] at hl ⊢
    have c2 : w.cell? ⟨b, 2, none⟩ = some (.map m) := hb.cell 2 rfl
    have HP : Hid (∀ W, Below w.heap.size w W → Calls Tryz.prog 44 #[.pointer (some ⟨b, 0, none⟩), .string (BA n), .agg #[.string (BA xn), .string (BA xv), .bool xs, .bool true, .bool xr]] W fun e w' => e = .returned (.tuple #[]) ∧ VAt w' b X { s with L := putL s.L ⟨n, xv, xs, true, xr⟩ } ∧ GrownS W w' X) := hide (fun W hW => put_any b X s xn ⟨n, xv, xs, true, xr⟩ W (fun k hk => hX k (Nat.le_trans hW.size hk)) (hV.below hW) hn hL)
    unfold Vr.val at hl
    simp only at hl ⊢
    clear hb ha hm x1 x2 x3 hx hV hX hn hq
    go_enter Tryz.func27, Tryz.ntmps27
    go_wp2_with fail
    refine (unhide HN).mono ?_
    rintro e w1 ⟨rfl, rfl⟩
    go_wp2_with fail
    refine (unhide HP _ ((Below.refl _ _).alloc (Nat.le_refl _) _)).mono ?_
    rintro e w2 ⟨rfl, hv2, hg2⟩
    have HV2 := hide hv2
    have HG2 := hide hg2
    clear hv2 hg2
    go_wp2
    go_ret
    exact ⟨rfl, unhide HV2, (grownS_of_below ((Below.refl _ _).alloc (Nat.le_refl _) _)).trans (unhide HG2)⟩
  | false =>
    rw [show mayN n = 16 by unfold mayN; rw [hq]; rfl] at HN
    rw [show expS s n = (s, 16) by unfold expS; rw [hq]; rfl]
    have HV := hide h
    clear h hq hX
    go_enter Tryz.func27, Tryz.ntmps27
    go_wp2_with fail
    refine (unhide HN).mono ?_
    rintro e w1 ⟨rfl, rfl⟩
    go_wp2
    go_ret
    exact ⟨rfl, unhide HV, grownS_of_below (Below.refl _ _)⟩
set_option maxRecDepth 20000 in
set_option maxHeartbeats 4000000 in
theorem export_nil (n : List UInt8) (w : World) : Calls Tryz.prog 27 #[.pointer none, .string (BA n)] w fun e w' => e = .returned (.int .i64 2) ∧ w' = w := by
  go_enter Tryz.func27, Tryz.ntmps27
  go_wp2_with fail
  refine (mayName_nil n w).mono ?_
  rintro e w1 ⟨rfl, rfl⟩
  go_wp2
  go_ret
  exact ⟨rfl, rfl⟩
set_option maxRecDepth 20000 in
set_option maxHeartbeats 4000000 in
theorem readonly_any (b : Nat) (X : Nat → Prop) (s : VSt) (n : List UInt8) (w : World) (hX : ∀ k, w.heap.size ≤ k → X k) (h : VAt w b X s) (hn : n.length ≤ 100000) (hL : s.L.length ≤ 1000) :
    Calls Tryz.prog 22 #[.pointer (some ⟨b, 0, none⟩), .string (BA n)] w fun e w' => e = .returned (.int .i64 (rdoS s n).2) ∧ VAt w' b X (rdoS s n).1 ∧ GrownS w w' X := by
  have HN := hide (mayName_any b n w hn)
  cases hq : namL n with
  | true =>
    rw [show mayN n = 0 by unfold mayN; rw [hq]; rfl] at HN
    rw [show rdoS s n = ({ s with L := putL s.L { getL s.L n with name := n, ro := true } }, 0) by unfold rdoS; rw [hq]; rfl]
    have hV := h
    obtain ⟨v, m, hb, ha, hm, x1, x2, x3⟩ := h
    have hl := hm.look n (by unfold maxLen; omega)
    obtain ⟨⟨xn, xv, xs, xe, xr⟩, hx⟩ : ∃ x, x = getL s.L n := ⟨_, rfl⟩
    rw [← hx] at hl ⊢
    have c2 : w.cell? ⟨b, 2, none⟩ = some (.map m) := hb.cell 2 rfl
    have HP : Hid (∀ W, Below w.heap.size w W → Calls Tryz.prog 44 #[.pointer (some ⟨b, 0, none⟩), .string (BA n), .agg #[.string (BA xn), .string (BA xv), .bool xs, .bool xe, .bool true]] W fun e w' => e = .returned (.tuple #[]) ∧ VAt w' b X { s with L := putL s.L ⟨n, xv, xs, xe, true⟩ } ∧ GrownS W w' X) := hide (fun W hW => put_any b X s xn ⟨n, xv, xs, xe, true⟩ W (fun k hk => hX k (Nat.le_trans hW.size hk)) (hV.below hW) hn hL)
    unfold Vr.val at hl
    simp only at hl ⊢
    clear hb ha hm x1 x2 x3 hx hV hX hn hq
    go_enter Tryz.func22, Tryz.ntmps22
    go_wp2_with fail
    refine (unhide HN).mono ?_
    rintro e w1 ⟨rfl, rfl⟩
    go_wp2_with fail
    refine (unhide HP _ ((Below.refl _ _).alloc (Nat.le_refl _) _)).mono ?_
    rintro e w2 ⟨rfl, hv2, hg2⟩
    have HV2 := hide hv2
    have HG2 := hide hg2
    clear hv2 hg2
    go_wp2
    go_ret
    exact ⟨rfl, unhide HV2, (grownS_of_below ((Below.refl _ _).alloc (Nat.le_refl _) _)).trans (unhide HG2)⟩
  | false =>
    rw [show mayN n = 16 by unfold mayN; rw [hq]; rfl] at HN
    rw [show rdoS s n = (s, 16) by unfold rdoS; rw [hq]; rfl]
    have HV := hide h
    clear h hq hX
    go_enter Tryz.func22, Tryz.ntmps22
    go_wp2_with fail
    refine (unhide HN).mono ?_
    rintro e w1 ⟨rfl, rfl⟩
    go_wp2
    go_ret
    exact ⟨rfl, unhide HV, grownS_of_below (Below.refl _ _)⟩
set_option maxRecDepth 20000 in
set_option maxHeartbeats 4000000 in
theorem readonly_nil (n : List UInt8) (w : World) : Calls Tryz.prog 22 #[.pointer none, .string (BA n)] w fun e w' => e = .returned (.int .i64 2) ∧ w' = w := by
  go_enter Tryz.func22, Tryz.ntmps22
  go_wp2_with fail
  refine (mayName_nil n w).mono ?_
  rintro e w1 ⟨rfl, rfl⟩
  go_wp2
  go_ret
  exact ⟨rfl, rfl⟩
set_option maxRecDepth 20000 in
set_option maxHeartbeats 4000000 in
theorem unset_any (b : Nat) (X : Nat → Prop) (s : VSt) (n : List UInt8) (w : World) (h : VAt w b X s) (hn : n.length ≤ 100000) :
    Calls Tryz.prog 26 #[.pointer (some ⟨b, 0, none⟩), .string (BA n)] w fun e w' => e = .returned (.int .i64 (unsS s n).2) ∧ VAt w' b X (unsS s n).1 ∧ GrownS w w' X := by
  have HN := hide (mayTurn_any b X s n w h hn)
  have HE : mayT s n ≠ 0 → unsS s n = (s, mayT s n) := by
    unfold mayT unsS
    intro hne
    split
    · rfl
    · rename_i h1
      rw [if_neg h1] at hne
      split
      · rfl
      · rename_i h2
        rw [if_neg h2] at hne
        exact absurd rfl hne
  have HO : mayT s n = 0 → unsS s n = ({ s with L := delL s.L n }, 0) := by
    unfold mayT unsS
    intro h0
    split
    · rename_i h1
      rw [if_pos h1] at h0
      cases h0
    · rename_i h1
      rw [if_neg h1] at h0
      split
      · rename_i h2
        rw [if_pos h2] at h0
        cases h0
      · rfl
  obtain ⟨er, her⟩ : ∃ er, er = mayT s n := ⟨_, rfl⟩
  rw [← her] at HN HE HO
  by_cases h0 : er = 0
  · rw [HO h0]
    subst h0
    obtain ⟨v, m, hb, ha, hm, x1, x2, x3⟩ := h
    have c2 : w.cell? ⟨b, 2, none⟩ = some (.map m) := hb.cell 2 rfl
    obtain ⟨wd, hrun, hmd, hgd⟩ := hm.drop n (by unfold maxLen; omega)
    have HEND : Hid (VAt wd b X { s with L := delL s.L n } ∧ GrownS w wd X) := hide ⟨⟨v, m, hb.grownS hgd (fun e => blk_map hb hm e), ha.grown hgd (fun k hk e => row_map ha hm hk e), hmd, x1, x2, x3⟩, hgd.mono (fun k _ e => x3 k e)⟩
    clear hb ha hm x1 x2 x3 HE HO her hmd hgd hn
    go_enter Tryz.func26, Tryz.ntmps26
    go_wp2_with fail
    refine (unhide HN).mono ?_
    rintro e w1 ⟨rfl, rfl⟩
    go_wp2
    go_ret
    exact ⟨rfl, unhide HEND⟩
  · rw [HE h0]
    have HV := hide h
    have hne : (er != 0) = true := by simpa using h0
    clear HE HO h her h0
    go_enter Tryz.func26, Tryz.ntmps26
    go_wp2_with fail
    refine (unhide HN).mono ?_
    rintro e w1 ⟨rfl, rfl⟩
    go_wp2
    go_ret
    exact ⟨rfl, unhide HV, grownS_of_below (Below.refl _ _)⟩
set_option maxRecDepth 20000 in
set_option maxHeartbeats 4000000 in
theorem unset_nil (n : List UInt8) (w : World) : Calls Tryz.prog 26 #[.pointer none, .string (BA n)] w fun e w' => e = .returned (.int .i64 2) ∧ w' = w := by
  go_enter Tryz.func26, Tryz.ntmps26
  go_wp2_with fail
  refine (mayTurn_nil n w).mono ?_
  rintro e w1 ⟨rfl, rfl⟩
  go_wp2
  go_ret
  exact ⟨rfl, rfl⟩

end Go.Proofs.YtbcbnoeplapblaaGreatDoor

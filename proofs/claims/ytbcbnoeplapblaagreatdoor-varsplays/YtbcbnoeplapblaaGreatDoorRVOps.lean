/-
  The document's Set, Unset, Mark, Shift, Get.
-/
import Derived.Test.YtbcbnoeplapblaaGreatDoorRVPut
namespace Go.Proofs.YtbcbnoeplapblaaGreatDoor
open Go.RowKit Go.Maps

set_option maxRecDepth 20000 in
set_option maxHeartbeats 4000000 in
theorem rset_any (w0 w : World) (b : Nat) (Y : Nat → Prop) (s : VSt) (n val : List UInt8) (hY : ∀ k, w.heap.size ≤ k → Y k) (h : RAt w0 w b Y s) (hn : n.length ≤ 100000) (hL : s.L.length ≤ 1000) :
    Calls Tryz.prog 33 #[.pointer (some ⟨b, 0, none⟩), .string (BA n), .string (BA val)] w fun e w' => e = .returned (.int .i64 (setS s n val).2) ∧ RAt w0 w' b Y (setS s n val).1 ∧ GrownS w w' (fun k => k = b) := by
  have HN := hide (rname_any n w hn)
  have HF := hide (rfind_any w0 w b Y s n h hL)
  have HV := hide h
  cases hq : namL n with
  | false =>
    rw [hq] at HN
    rw [show setS s n val = (s, 16) by unfold setS; rw [hq]; rfl]
    clear hq hY h HF
    go_enter Tryz.func33, Tryz.ntmps33
    go_wp2_with fail
    refine (unhide HN).mono ?_
    rintro e w1 ⟨rfl, hw1⟩
    rw [show w1 = w from hw1]
    clear hw1
    go_wp2
    go_ret
    exact ⟨rfl, unhide HV, grownS_of_below (Below.refl _ _)⟩
  | true =>
    rw [hq] at HN
    obtain ⟨⟨xn, xv, xs, xe, xr⟩, hx⟩ : ∃ x, x = getL s.L n := ⟨_, rfl⟩
    rw [← hx] at HF
    unfold Vr.val at HF
    simp only at HF
    cases xr with
    | true =>
      rw [show setS s n val = (s, 15) by unfold setS; rw [hq, ← hx]; rfl]
      clear hq hY h hx
      go_enter Tryz.func33, Tryz.ntmps33
      go_wp2_with fail
      refine (unhide HN).mono ?_
      rintro e w1 ⟨rfl, hw1⟩
      rw [show w1 = w from hw1]
      clear hw1
      go_wp2_with fail
      refine (unhide HF).mono ?_
      rintro e w1 ⟨rfl, hB1⟩
      have HB1 := hide hB1
      clear hB1
      go_wp2
      go_ret
      exact ⟨rfl, (unhide HV).below ((unhide HB1).trans ((Below.refl _ _).alloc (unhide HB1).size _)), grownS_of_below ((unhide HB1).trans ((Below.refl _ _).alloc (unhide HB1).size _))⟩
    | false =>
      rw [show setS s n val = ({ s with L := putL s.L ⟨n, val, true, xe, false⟩ }, 0) by unfold setS; rw [hq, ← hx]; rfl]
      have HP : Hid (∀ W, Below w.heap.size w W → Calls Tryz.prog 49 #[.pointer (some ⟨b, 0, none⟩), .agg #[.string (BA n), .string (BA val), .bool true, .bool xe, .bool false]] W fun e w' => e = .returned (.tuple #[]) ∧ RAt w0 w' b Y { s with L := putL s.L ⟨n, val, true, xe, false⟩ } ∧ GrownS W w' (fun k => k = b)) := hide (fun W hW => rput_any w0 W b Y s ⟨n, val, true, xe, false⟩ (fun k hk => hY k (Nat.le_trans hW.size hk)) (h.below hW) hL)
      clear hq hY h hx
      go_enter Tryz.func33, Tryz.ntmps33
      go_wp2_with fail
      refine (unhide HN).mono ?_
      rintro e w1 ⟨rfl, hw1⟩
      rw [show w1 = w from hw1]
      clear hw1
      go_wp2_with fail
      refine (unhide HF).mono ?_
      rintro e w1 ⟨rfl, hB1⟩
      have HB1 := hide hB1
      clear hB1
      go_wp2_with fail
      refine (unhide HP _ ((unhide HB1).trans ((Below.refl _ _).alloc (unhide HB1).size _))).mono ?_
      rintro e w2 ⟨rfl, hv2, hg2⟩
      have HV2 := hide hv2
      have HG2 := hide hg2
      clear hv2 hg2
      go_wp2
      go_ret
      exact ⟨rfl, unhide HV2, (grownS_of_below ((unhide HB1).trans ((Below.refl _ _).alloc (unhide HB1).size _))).trans (unhide HG2)⟩
set_option maxRecDepth 20000 in
set_option maxHeartbeats 4000000 in
theorem runset_any (w0 w : World) (b : Nat) (Y : Nat → Prop) (s : VSt) (n : List UInt8) (hY : ∀ k, w.heap.size ≤ k → Y k) (h : RAt w0 w b Y s) (hn : n.length ≤ 100000) (hL : s.L.length ≤ 1000) :
    Calls Tryz.prog 30 #[.pointer (some ⟨b, 0, none⟩), .string (BA n)] w fun e w' => e = .returned (.int .i64 (unsS s n).2) ∧ RAt w0 w' b Y (unsS s n).1 ∧ GrownS w w' (fun k => k = b) := by
  have HN := hide (rname_any n w hn)
  have HF := hide (rfind_any w0 w b Y s n h hL)
  have HV := hide h
  cases hq : namL n with
  | false =>
    rw [hq] at HN
    rw [show unsS s n = (s, 16) by unfold unsS; rw [hq]; rfl]
    clear hq hY h HF
    go_enter Tryz.func30, Tryz.ntmps30
    go_wp2_with fail
    refine (unhide HN).mono ?_
    rintro e w1 ⟨rfl, hw1⟩
    rw [show w1 = w from hw1]
    clear hw1
    go_wp2
    go_ret
    exact ⟨rfl, unhide HV, grownS_of_below (Below.refl _ _)⟩
  | true =>
    rw [hq] at HN
    obtain ⟨⟨xn, xv, xs, xe, xr⟩, hx⟩ : ∃ x, x = getL s.L n := ⟨_, rfl⟩
    rw [← hx] at HF
    unfold Vr.val at HF
    simp only at HF
    have hfd : ∀ W, (Instr.field 62 (.agg #[.string (BA xn), .string (BA xv), .bool xs, .bool xe, .bool xr]) 4).run Tryz.prog W = .ok (.bool xr) W := by intro W; kernel_rfl
    cases xr with
    | true =>
      rw [show unsS s n = (s, 15) by unfold unsS; rw [hq, ← hx]; rfl]
      clear hq hY h hx
      go_enter Tryz.func30, Tryz.ntmps30
      go_wp2_with fail
      refine (unhide HN).mono ?_
      rintro e w1 ⟨rfl, hw1⟩
      rw [show w1 = w from hw1]
      clear hw1
      go_wp2_with fail
      refine (unhide HF).mono ?_
      rintro e w1 ⟨rfl, hB1⟩
      have HB1 := hide hB1
      clear hB1
      have hfd1 := hfd w1
      go_wp2
      go_ret
      exact ⟨rfl, (unhide HV).below (unhide HB1), grownS_of_below (unhide HB1)⟩
    | false =>
      rw [show unsS s n = ({ s with L := delL s.L n }, 0) by unfold unsS; rw [hq, ← hx]; rfl]
      have HP : Hid (∀ W, Below w.heap.size w W → Calls Tryz.prog 49 #[.pointer (some ⟨b, 0, none⟩), .agg #[.string (BA n), .string (BA []), .bool false, .bool false, .bool false]] W fun e w' => e = .returned (.tuple #[]) ∧ RAt w0 w' b Y { s with L := delL s.L n } ∧ GrownS W w' (fun k => k = b)) := hide (fun W hW => rput_any w0 W b Y s ⟨n, [], false, false, false⟩ (fun k hk => hY k (Nat.le_trans hW.size hk)) (h.below hW) hL)
      clear hq hY h hx
      go_enter Tryz.func30, Tryz.ntmps30
      go_wp2_with fail
      refine (unhide HN).mono ?_
      rintro e w1 ⟨rfl, hw1⟩
      rw [show w1 = w from hw1]
      clear hw1
      go_wp2_with fail
      refine (unhide HF).mono ?_
      rintro e w1 ⟨rfl, hB1⟩
      have HB1 := hide hB1
      clear hB1
      have hfd1 := hfd w1
      go_wp2_with fail
      refine (unhide HP _ ((unhide HB1))).mono ?_
      rintro e w2 ⟨rfl, hv2, hg2⟩
      have HV2 := hide hv2
      have HG2 := hide hg2
      clear hv2 hg2
      go_wp2
      go_ret
      exact ⟨rfl, unhide HV2, (grownS_of_below ((unhide HB1))).trans (unhide HG2)⟩
set_option maxRecDepth 20000 in
set_option maxHeartbeats 4000000 in
theorem rexp_any (w0 w : World) (b : Nat) (Y : Nat → Prop) (s : VSt) (n : List UInt8) (hY : ∀ k, w.heap.size ≤ k → Y k) (h : RAt w0 w b Y s) (hn : n.length ≤ 100000) (hL : s.L.length ≤ 1000) :
    Calls Tryz.prog 31 #[.pointer (some ⟨b, 0, none⟩), .string (BA n), .bool false] w fun e w' => e = .returned (.int .i64 (expS s n).2) ∧ RAt w0 w' b Y (expS s n).1 ∧ GrownS w w' (fun k => k = b) := by
  have HN := hide (rname_any n w hn)
  have HF := hide (rfind_any w0 w b Y s n h hL)
  have HV := hide h
  cases hq : namL n with
  | false =>
    rw [hq] at HN
    rw [show expS s n = (s, 16) by unfold expS; rw [hq]; rfl]
    clear hq hY h HF
    go_enter Tryz.func31, Tryz.ntmps31
    go_wp2_with fail
    refine (unhide HN).mono ?_
    rintro e w1 ⟨rfl, hw1⟩
    rw [show w1 = w from hw1]
    clear hw1
    go_wp2
    go_ret
    exact ⟨rfl, unhide HV, grownS_of_below (Below.refl _ _)⟩
  | true =>
    rw [hq] at HN
    obtain ⟨⟨xn, xv, xs, xe, xr⟩, hx⟩ : ∃ x, x = getL s.L n := ⟨_, rfl⟩
    rw [← hx] at HF
    unfold Vr.val at HF
    simp only at HF
    rw [show expS s n = ({ s with L := putL s.L ⟨n, xv, xs, true, xr⟩ }, 0) by unfold expS; rw [hq, ← hx]; rfl]
    have HP : Hid (∀ W, Below w.heap.size w W → Calls Tryz.prog 49 #[.pointer (some ⟨b, 0, none⟩), .agg #[.string (BA n), .string (BA xv), .bool xs, .bool true, .bool xr]] W fun e w' => e = .returned (.tuple #[]) ∧ RAt w0 w' b Y { s with L := putL s.L ⟨n, xv, xs, true, xr⟩ } ∧ GrownS W w' (fun k => k = b)) := hide (fun W hW => by have := rput_any w0 W b Y s ⟨n, xv, xs, true, xr⟩ (fun k hk => hY k (Nat.le_trans hW.size hk)) (h.below hW) hL; rwa [show rputL s.L ⟨n, xv, xs, true, xr⟩ = putL s.L ⟨n, xv, xs, true, xr⟩ from if_pos (by simp)] at this)
    clear hq hY h hx
    go_enter Tryz.func31, Tryz.ntmps31
    go_wp2_with fail
    refine (unhide HN).mono ?_
    rintro e w1 ⟨rfl, hw1⟩
    rw [show w1 = w from hw1]
    clear hw1
    go_wp2_with fail
    refine (unhide HF).mono ?_
    rintro e w1 ⟨rfl, hB1⟩
    have HB1 := hide hB1
    clear hB1
    go_wp2_with fail
    refine (unhide HP _ ((unhide HB1).trans ((Below.refl _ _).alloc (unhide HB1).size _))).mono ?_
    rintro e w2 ⟨rfl, hv2, hg2⟩
    have HV2 := hide hv2
    have HG2 := hide hg2
    clear hv2 hg2
    go_wp2
    go_ret
    exact ⟨rfl, unhide HV2, (grownS_of_below ((unhide HB1).trans ((Below.refl _ _).alloc (unhide HB1).size _))).trans (unhide HG2)⟩
set_option maxRecDepth 20000 in
set_option maxHeartbeats 4000000 in
theorem rrdo_any (w0 w : World) (b : Nat) (Y : Nat → Prop) (s : VSt) (n : List UInt8) (hY : ∀ k, w.heap.size ≤ k → Y k) (h : RAt w0 w b Y s) (hn : n.length ≤ 100000) (hL : s.L.length ≤ 1000) :
    Calls Tryz.prog 31 #[.pointer (some ⟨b, 0, none⟩), .string (BA n), .bool true] w fun e w' => e = .returned (.int .i64 (rdoS s n).2) ∧ RAt w0 w' b Y (rdoS s n).1 ∧ GrownS w w' (fun k => k = b) := by
  have HN := hide (rname_any n w hn)
  have HF := hide (rfind_any w0 w b Y s n h hL)
  have HV := hide h
  cases hq : namL n with
  | false =>
    rw [hq] at HN
    rw [show rdoS s n = (s, 16) by unfold rdoS; rw [hq]; rfl]
    clear hq hY h HF
    go_enter Tryz.func31, Tryz.ntmps31
    go_wp2_with fail
    refine (unhide HN).mono ?_
    rintro e w1 ⟨rfl, hw1⟩
    rw [show w1 = w from hw1]
    clear hw1
    go_wp2
    go_ret
    exact ⟨rfl, unhide HV, grownS_of_below (Below.refl _ _)⟩
  | true =>
    rw [hq] at HN
    obtain ⟨⟨xn, xv, xs, xe, xr⟩, hx⟩ : ∃ x, x = getL s.L n := ⟨_, rfl⟩
    rw [← hx] at HF
    unfold Vr.val at HF
    simp only at HF
    rw [show rdoS s n = ({ s with L := putL s.L ⟨n, xv, xs, xe, true⟩ }, 0) by unfold rdoS; rw [hq, ← hx]; rfl]
    have HP : Hid (∀ W, Below w.heap.size w W → Calls Tryz.prog 49 #[.pointer (some ⟨b, 0, none⟩), .agg #[.string (BA n), .string (BA xv), .bool xs, .bool xe, .bool true]] W fun e w' => e = .returned (.tuple #[]) ∧ RAt w0 w' b Y { s with L := putL s.L ⟨n, xv, xs, xe, true⟩ } ∧ GrownS W w' (fun k => k = b)) := hide (fun W hW => by have := rput_any w0 W b Y s ⟨n, xv, xs, xe, true⟩ (fun k hk => hY k (Nat.le_trans hW.size hk)) (h.below hW) hL; rwa [show rputL s.L ⟨n, xv, xs, xe, true⟩ = putL s.L ⟨n, xv, xs, xe, true⟩ from if_pos (by simp)] at this)
    clear hq hY h hx
    go_enter Tryz.func31, Tryz.ntmps31
    go_wp2_with fail
    refine (unhide HN).mono ?_
    rintro e w1 ⟨rfl, hw1⟩
    rw [show w1 = w from hw1]
    clear hw1
    go_wp2_with fail
    refine (unhide HF).mono ?_
    rintro e w1 ⟨rfl, hB1⟩
    have HB1 := hide hB1
    clear hB1
    go_wp2_with fail
    refine (unhide HP _ ((unhide HB1).trans ((Below.refl _ _).alloc (unhide HB1).size _))).mono ?_
    rintro e w2 ⟨rfl, hv2, hg2⟩
    have HV2 := hide hv2
    have HG2 := hide hg2
    clear hv2 hg2
    go_wp2
    go_ret
    exact ⟨rfl, unhide HV2, (grownS_of_below ((unhide HB1).trans ((Below.refl _ _).alloc (unhide HB1).size _))).trans (unhide HG2)⟩
set_option maxRecDepth 20000 in
set_option maxHeartbeats 4000000 in
theorem rget_any (w0 w : World) (b : Nat) (Y : Nat → Prop) (s : VSt) (n : List UInt8) (h : RAt w0 w b Y s) (hL : s.L.length ≤ 1000) :
    Calls Tryz.prog 11 #[.pointer (some ⟨b, 0, none⟩), .string (BA n)] w fun e w' => e = .returned (.tuple #[.string (BA (getL s.L n).value), .bool (getL s.L n).set]) ∧ Below w.heap.size w w' := by
  have HF := hide (rfind_any w0 w b Y s n h hL)
  obtain ⟨⟨xn, xv, xs, xe, xr⟩, hx⟩ : ∃ x, x = getL s.L n := ⟨_, rfl⟩
  rw [← hx] at HF ⊢
  unfold Vr.val at HF
  simp only at HF ⊢
  clear hx h
  go_enter Tryz.func11, Tryz.ntmps11
  go_wp2_with fail
  refine (unhide HF).mono ?_
  rintro e w1 ⟨rfl, hB1⟩
  have HB1 := hide hB1
  clear hB1
  go_wp2_with fail
  go_quiet (fail)
  go_wp2
  go_ret2
  exact ⟨rfl, ((unhide HB1).trans ((Below.refl _ _).alloc (unhide HB1).size _)).trans ((below_drew _ _).mono (Nat.le_trans (unhide HB1).size (by simp)))⟩
set_option maxRecDepth 20000 in
set_option maxHeartbeats 4000000 in
theorem rshift_any (w0 w : World) (b : Nat) (Y : Nat → Prop) (s : VSt) (n : Int) (h : RAt w0 w b Y s) :
    Calls Tryz.prog 32 #[.pointer (some ⟨b, 0, none⟩), .int .i64 n] w fun e w' => e = .returned (.int .i64 (shfS s n).2) ∧ RAt w0 w' b Y (shfS s n).1 ∧ GrownS w w' (fun k => k = b) := by
  have HV := hide h
  obtain ⟨lv, av, hb, hr, hl, ha, hcp, hs, hy, hB⟩ := h
  have c2 : w.cell? ⟨b, 2, none⟩ = some av := hb.cell 2 rfl
  have f2 : w.frozen? ⟨b, 2, none⟩ = false := hb.frozen 2
  obtain ⟨ad, cap, hu, hmx, hcs⟩ := id ha
  have hcap := hcp _ _ _ hu
  subst hu
  unfold shfS
  by_cases hneg : n < 0
  · rw [if_pos (.inl hneg)]
    clear hb hr hl ha hcp hs hy hB hcs f2 hcap
    go_enter Tryz.func32, Tryz.ntmps32
    go_wp2
    go_ret
    exact ⟨rfl, unhide HV, grownS_of_below (Below.refl _ _)⟩
  by_cases hbig : (s.args.length : Int) < n
  · rw [if_pos (.inr hbig)]
    clear hb hr hl ha hcp hs hy hB hcs f2 hcap
    have hneg' : decide (n < 0) = false := by simpa using hneg
    go_enter Tryz.func32, Tryz.ntmps32
    go_wp2
    go_ret
    exact ⟨rfl, unhide HV, grownS_of_below (Below.refl _ _)⟩
  · rw [if_neg (by omega)]
    obtain ⟨k, rfl⟩ : ∃ k : Nat, n = (k : Int) := ⟨n.toNat, by omega⟩
    have hk : k ≤ s.args.length := by omega
    have hneg' : decide ((k : Int) < 0) = false := by simp
    simp only [Int.toNat_natCast]
    have hst : ∀ v' : Value, AIn w0 v' (s.args.drop k) → RoomOk v' → RAt w0 (w.setCell ⟨b, 2, none⟩ v') b Y { s with args := s.args.drop k } ∧ GrownS w (w.setCell ⟨b, 2, none⟩ v') (fun k => k = b) := by
      intro v' ha' hc'
      have hg : GrownS w (w.setCell ⟨b, 2, none⟩ v') (fun k => k = b) := GrownS.of (grown_setCell w _ _) (fun k e => by simpa using e)
      exact ⟨⟨lv, v', hb.set 2 _, hr.grownS hg (fun k hk _ e => (hl k hk).1 e), (fun k hk => ⟨(hl k hk).1, (hl k hk).2.1, Nat.lt_of_lt_of_le (hl k hk).2.2 hg.size⟩), ha', hc', hs, hy, hB.trans (hg.below hB.size (fun k e => by rw [e]; exact hs))⟩, hg⟩
    have hldr : (s.args.drop k).length = s.args.length - k := by simp
    cases ad with
    | none =>
      have ha0 : s.args = [] := by
        rcases hcs with h | ⟨g, o, h, _⟩
        · exact h
        · cases h
      have hl0 : s.args.length = 0 := by rw [ha0]; rfl
      have hk0 : k = 0 := by omega
      subst hk0
      have HEND : Hid (∀ cap', RAt w0 (w.setCell ⟨b, 2, none⟩ (.slice none 0 cap')) b Y { s with args := s.args.drop 0 } ∧ GrownS w (w.setCell ⟨b, 2, none⟩ (.slice none 0 cap')) (fun k => k = b)) := hide (fun cap' => hst _ (by rw [ha0]; exact ⟨none, _, rfl, Nat.zero_le _, .inl rfl⟩) (fun a n c e => by injection e with _ e2 _; omega))
      rw [hl0] at c2 hbig hk hcap
      clear hb hr hl ha hcp hs hy hB hcs hst HV ha0 hl0 hldr hmx
      go_enter Tryz.func32, Tryz.ntmps32
      go_wp2
      go_ret
      exact ⟨rfl, unhide HEND _⟩
    | some a =>
      by_cases h0 : s.args.length = 0
      · have hk0 : k = 0 := by omega
        subst hk0
        have ha0 : s.args = [] := List.eq_nil_of_length_eq_zero h0
        have HEND : Hid (∀ ad' cap', RAt w0 (w.setCell ⟨b, 2, none⟩ (.slice ad' 0 cap')) b Y { s with args := s.args.drop 0 } ∧ GrownS w (w.setCell ⟨b, 2, none⟩ (.slice ad' 0 cap')) (fun k => k = b)) := hide (fun ad' cap' => hst _ (by rw [ha0]; exact ⟨ad', _, rfl, Nat.zero_le _, .inl rfl⟩) (fun a n c e => by injection e with _ e2 _; omega))
        rw [h0] at c2 hbig hk hcap
        clear hb hr hl ha hcp hs hy hB hcs hst HV ha0 h0 hldr hmx
        go_enter Tryz.func32, Tryz.ntmps32
        go_wp2
        all_goals go_ret
        all_goals exact ⟨rfl, unhide HEND _ _⟩
      obtain ⟨g, o, hga, hg0, hcell⟩ : ∃ g o, (some a : Option Addr) = some ⟨g, o, none⟩ ∧ g < w0.heap.size ∧ ∀ i x, s.args[i]? = some x → w0.cell? ⟨g, o + i, none⟩ = some (.string (BA x)) := by
        rcases hcs with h | h
        · exact absurd (by rw [h]; rfl) h0
        · exact h
      injection hga with hga
      subst hga
      have HEND : Hid (RAt w0 (w.setCell ⟨b, 2, none⟩ (.slice (some ⟨g, o + k, none⟩) (s.args.length - k) (cap - k))) b Y { s with args := s.args.drop k } ∧ GrownS w (w.setCell ⟨b, 2, none⟩ (.slice (some ⟨g, o + k, none⟩) (s.args.length - k) (cap - k))) (fun k => k = b)) := hide (hst _ ⟨_, _, by rw [hldr], by rw [hldr]; omega, .inr ⟨g, o + k, rfl, hg0, fun i x hi => by
        rw [List.getElem?_drop] at hi
        have := hcell _ _ hi
        rwa [← Nat.add_assoc] at this⟩⟩ (fun a n c e => by injection e with _ e2 e3; omega))
      have HEND2 : Hid (cap = k → RAt w0 (w.setCell ⟨b, 2, none⟩ (.slice (some ⟨g, o, none⟩) (s.args.length - k) 0)) b Y { s with args := s.args.drop k } ∧ GrownS w (w.setCell ⟨b, 2, none⟩ (.slice (some ⟨g, o, none⟩) (s.args.length - k) 0)) (fun k => k = b)) := hide (fun hck => hst _ ⟨_, _, by rw [hldr], by rw [hldr]; omega, .inl (List.drop_eq_nil_of_le (by omega))⟩ (fun a n c e => by injection e with _ e2 e3; omega))
      have hk1 : (0 : Int) ≤ (k : Int) := by omega
      have hk2 : (k : Int) ≤ (s.args.length : Int) := by omega
      have hk3 : (k : Int) ≤ (cap : Int) := by omega
      obtain ⟨len, hlen⟩ : ∃ n, n = s.args.length := ⟨_, rfl⟩
      rw [← hlen] at c2 hbig hk hk2 hcap HEND HEND2 hmx
      clear hb hr hl ha hcp hs hy hB hcs hst HV hldr hcell hlen h0
      go_enter Tryz.func32, Tryz.ntmps32
      go_wp2
      · go_ret
        exact ⟨rfl, unhide HEND2 (by assumption)⟩
      · go_ret
        exact ⟨rfl, unhide HEND⟩

end Go.Proofs.YtbcbnoeplapblaaGreatDoor

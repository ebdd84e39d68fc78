/-
  The reader's 'choice' and 'operand' on what is read below them.
-/
import Derived.Test.YtlbpeknncakfeaaGreatDoorExpr
namespace Go.Proofs.YtlbpeknncakfeaaGreatDoor
open Go.RowKit Go.Maps
attribute [local irreducible] findOp findSign

theorem tk_none {c : UInt8} {l : List UInt8} (h : tk c l = none) : Lib.hasPrefix (sk l) [c] = false ∧ Lib.trimPrefix (sk l) [c] = sk l := by
  unfold tk at h
  rcases Bool.eq_false_or_eq_true (Lib.hasPrefix (sk l) [c]) with hp | hp
  · rw [hp, if_pos rfl] at h; cases h
  · exact ⟨hp, by unfold Lib.trimPrefix; rw [hp]; rfl⟩
theorem tk_some {c : UInt8} {l r : List UInt8} (h : tk c l = some r) : Lib.hasPrefix (sk l) [c] = true ∧ Lib.trimPrefix (sk l) [c] = r := by
  unfold tk at h
  rcases Bool.eq_false_or_eq_true (Lib.hasPrefix (sk l) [c]) with hp | hp
  · rw [hp, if_pos rfl] at h; cases h; exact ⟨hp, rfl⟩
  · rw [hp, if_neg (by simp)] at h; cases h
theorem tk_nil (c : UInt8) : tk c [] = none := rfl

/-- 'take' where the byte doesn't stand at the front. -/
theorem take_no (c : UInt8) (rb b1 b2 : Nat) (l : List UInt8) (f : Bool) (w : World) (h : Rd w rb b1 b2 l f) (hc : tk c l = none) :
    Calls Tryz.prog 110 #[.pointer (some ⟨rb, 0, none⟩), .string ⟨#[c]⟩] w fun e w' => e = .returned (.bool false) ∧ Rd w' rb b1 b2 (sk l) f ∧ w.grownBy w' (some rb) := by
  have := take_any ⟨#[c]⟩ rb b1 b2 l f w h
  rw [show (⟨#[c]⟩ : ByteArray).data.toList = [c] from rfl, (tk_none hc).1, (tk_none hc).2] at this
  exact this
theorem take_yes (c : UInt8) (rb b1 b2 : Nat) (l r : List UInt8) (f : Bool) (w : World) (h : Rd w rb b1 b2 l f) (hc : tk c l = some r) :
    Calls Tryz.prog 110 #[.pointer (some ⟨rb, 0, none⟩), .string ⟨#[c]⟩] w fun e w' => e = .returned (.bool true) ∧ Rd w' rb b1 b2 r f ∧ w.grownBy w' (some rb) := by
  have := take_any ⟨#[c]⟩ rb b1 b2 l f w h
  rw [show (⟨#[c]⟩ : ByteArray).data.toList = [c] from rfl, (tk_some hc).1, (tk_some hc).2] at this
  exact this

set_option maxRecDepth 20000 in
set_option maxHeartbeats 4000000 in
theorem choice_step (k : Nat) (iE : CE k) (iC : CC k) (iO : CO k) : CC (k + 1) := by
  intro rb b1 b2 l w h hg hk
  have IE := hide iE
  have IC := hide iC
  have hlen := h.len
  have hO := iO 1 rb b1 b2 l w h hg (by omega) (by omega) (by omega)
  have HG := hide hg
  have H := hide h
  clear iE iC iO hg h
  rcases hp : pOp k 1 l with _ | ⟨c, r⟩
  · rw [hp] at hO
    have HR : Hid (pChoice (k + 1) l = none) := hide (by rw [pChoice, hp])
    have HO := hide hO
    clear hO hp
    go_enter Tryz.func87, Tryz.ntmps87
    go_wp2_with fail
    refine (unhide HO).mono ?_
    rintro e w1 ⟨v, rfl, hv, g1, h1⟩
    have H1 := hide h1
    have G1 := hide g1
    clear h1 g1
    go_wp2_with fail
    refine (take_no 63 rb b1 b2 [] true w1 (unhide H1) (tk_nil 63)).mono ?_
    rintro e w2 ⟨rfl, h2, g2⟩
    have H2 := hide h2
    have G2 := hide g2
    clear h2 g2
    go_wp2
    go_ret
    refine ⟨v, rfl, hv, (unhide G1).trans (unhide G2), ?_⟩
    rw [unhide HR]
    exact unhide H2
  · have hl1 := (p_len k).2.2.1 _ _ _ _ hp
    rw [hp] at hO
    have HP := hide hp
    have HO := hide hO
    clear hO hp
    rcases h63 : tk 63 r with _ | r1
    · have HR : Hid (pChoice (k + 1) l = some (c, sk r)) := hide (by rw [pChoice, unhide HP]; simp only []; rw [h63])
      go_enter Tryz.func87, Tryz.ntmps87
      go_wp2_with fail
      refine (unhide HO).mono ?_
      rintro e w1 ⟨v, rfl, hv, g1, h1⟩
      have H1 := hide h1
      have G1 := hide g1
      clear h1 g1
      go_wp2_with fail
      refine (take_no 63 rb b1 b2 r false w1 (unhide H1).1 h63).mono ?_
      rintro e w2 ⟨rfl, h2, g2⟩
      have H2 := hide h2
      have G2 := hide g2
      clear h2 g2
      go_wp2
      go_ret
      refine ⟨v, rfl, hv, (unhide G1).trans (unhide G2), ?_⟩
      rw [unhide HR]
      exact ⟨unhide H2, fun lo x1 x2 => ((unhide H1).2 lo x1 x2).grown (unhide G2) x1⟩
    · have hl2 := tk_len h63
      rcases hy : pExpr k r1 with _ | ⟨y, r2⟩
      · have HR : Hid (pChoice (k + 1) l = none) := hide (by rw [pChoice, unhide HP]; simp only []; rw [h63]; simp only []; rw [hy])
        have HY := hide hy
        have H63 := hide h63
        clear hy h63
        go_enter Tryz.func87, Tryz.ntmps87
        go_wp2_with fail
        refine (unhide HO).mono ?_
        rintro e w1 ⟨v, rfl, hv, g1, h1⟩
        have HG1 := hide ((unhide HG).rd (unhide H) g1)
        have H1 := hide h1
        have G1 := hide g1
        clear h1 g1
        go_wp2_with fail
        refine (take_yes 63 rb b1 b2 r r1 false w1 (unhide H1).1 (unhide H63)).mono ?_
        rintro e w2 ⟨rfl, h2, g2⟩
        have HG2 := hide ((unhide HG1).rd (unhide H1).1 g2)
        have H2 := hide h2
        have G2 := hide g2
        clear h2 g2
        go_wp2_with fail
        refine (unhide IE rb b1 b2 r1 w2 (unhide H2) (unhide HG2) (by omega)).mono ?_
        rintro e w3 ⟨v3, rfl, hv3, g3, h3⟩
        rw [unhide HY] at h3
        have H3 := hide h3
        have G3 := hide g3
        clear h3 g3
        go_wp2_with fail
        refine (take_no 58 rb b1 b2 [] true w3 (unhide H3) (tk_nil 58)).mono ?_
        rintro e w4 ⟨rfl, h4, g4⟩
        have H4 := hide h4
        have G4 := hide g4
        clear h4 g4
        go_wp2_with fail
        refine (fail_any rb b1 b2 _ _ w4 (unhide H4)).mono ?_
        rintro e w5 ⟨rfl, h5, g5⟩
        have H5 := hide h5
        have G5 := hide g5
        clear h5 g5
        go_wp2
        go_ret
        refine ⟨_, rfl, .inl rfl, (unhide G1).trans ((unhide G2).trans ((unhide G3).trans ((unhide G4).trans (unhide G5)))), ?_⟩
        rw [unhide HR]
        exact unhide H5
      · have hl3 := (p_len k).1 _ _ _ hy
        rcases h58 : tk 58 r2 with _ | r3
        · have HR : Hid (pChoice (k + 1) l = none) := hide (by rw [pChoice, unhide HP]; simp only []; rw [h63]; simp only []; rw [hy]; simp only []; rw [h58])
          have HY := hide hy
          have H63 := hide h63
          have H58 := hide h58
          clear hy h63 h58
          go_enter Tryz.func87, Tryz.ntmps87
          go_wp2_with fail
          refine (unhide HO).mono ?_
          rintro e w1 ⟨v, rfl, hv, g1, h1⟩
          have HG1 := hide ((unhide HG).rd (unhide H) g1)
          have H1 := hide h1
          have G1 := hide g1
          clear h1 g1
          go_wp2_with fail
          refine (take_yes 63 rb b1 b2 r r1 false w1 (unhide H1).1 (unhide H63)).mono ?_
          rintro e w2 ⟨rfl, h2, g2⟩
          have HG2 := hide ((unhide HG1).rd (unhide H1).1 g2)
          have H2 := hide h2
          have G2 := hide g2
          clear h2 g2
          go_wp2_with fail
          refine (unhide IE rb b1 b2 r1 w2 (unhide H2) (unhide HG2) (by omega)).mono ?_
          rintro e w3 ⟨v3, rfl, hv3, g3, h3⟩
          rw [unhide HY] at h3
          have H3 := hide h3.1
          have G3 := hide g3
          clear h3 g3
          go_wp2_with fail
          refine (take_no 58 rb b1 b2 r2 false w3 (unhide H3) (unhide H58)).mono ?_
          rintro e w4 ⟨rfl, h4, g4⟩
          have H4 := hide h4
          have G4 := hide g4
          clear h4 g4
          go_wp2_with fail
          refine (fail_any rb b1 b2 _ _ w4 (unhide H4)).mono ?_
          rintro e w5 ⟨rfl, h5, g5⟩
          have H5 := hide h5
          have G5 := hide g5
          clear h5 g5
          go_wp2
          go_ret
          refine ⟨_, rfl, .inl rfl, (unhide G1).trans ((unhide G2).trans ((unhide G3).trans ((unhide G4).trans (unhide G5)))), ?_⟩
          rw [unhide HR]
          exact unhide H5
        · have hl4 := tk_len h58
          have HR : Hid (pChoice (k + 1) l = match pChoice k r3 with | none => none | some (n, r4) => some (.choice c y n, r4)) := hide (by rw [pChoice, unhide HP]; simp only []; rw [h63]; simp only []; rw [hy]; simp only []; rw [h58]; rfl)
          have HY := hide hy
          have H63 := hide h63
          have H58 := hide h58
          clear hy h63 h58
          go_enter Tryz.func87, Tryz.ntmps87
          go_wp2_with fail
          refine (unhide HO).mono ?_
          rintro e w1 ⟨v, rfl, hv, g1, h1⟩
          have HG1 := hide ((unhide HG).rd (unhide H) g1)
          have H1 := hide h1
          have G1 := hide g1
          clear h1 g1
          go_wp2_with fail
          refine (take_yes 63 rb b1 b2 r r1 false w1 (unhide H1).1 (unhide H63)).mono ?_
          rintro e w2 ⟨rfl, h2, g2⟩
          have HG2 := hide ((unhide HG1).rd (unhide H1).1 g2)
          have H2 := hide h2
          have G2 := hide g2
          clear h2 g2
          go_wp2_with fail
          refine (unhide IE rb b1 b2 r1 w2 (unhide H2) (unhide HG2) (by omega)).mono ?_
          rintro e w3 ⟨v3, rfl, hv3, g3, h3⟩
          rw [unhide HY] at h3
          have HG3 := hide ((unhide HG2).rd (unhide H2) g3)
          have H3 := hide h3
          have G3 := hide g3
          clear h3 g3
          go_wp2_with fail
          refine (take_yes 58 rb b1 b2 r2 r3 false w3 (unhide H3).1 (unhide H58)).mono ?_
          rintro e w4 ⟨rfl, h4, g4⟩
          have HG4 := hide ((unhide HG3).rd (unhide H3).1 g4)
          have H4 := hide h4
          have G4 := hide g4
          clear h4 g4
          go_wp2_with fail
          refine (unhide IC rb b1 b2 r3 w4 (unhide H4) (unhide HG4) (by omega)).mono ?_
          rintro e w5 ⟨v5, rfl, hv5, g5, h5⟩
          have H5 := hide h5
          have G5 := hide g5
          clear h5 g5
          go_wp2_with fail
          refine (choosing_any v v3 v5 hv hv3 hv5 w5).mono ?_
          rintro e w6 ⟨v6, rfl, hv6, g6, h6⟩
          have H6 := hide h6
          have G6 := hide g6
          clear h6 g6
          go_wp2
          go_ret
          have g35 := (unhide G4).trans (unhide G5)
          have g15 := (unhide G2).trans ((unhide G3).trans g35)
          refine ⟨v6, rfl, hv6, (unhide G1).trans (g15.trans (grown_but (unhide G6) _)), ?_⟩
          rw [unhide HR]
          have h5 := unhide H5
          revert h5
          cases pChoice k r3 with
          | none => exact fun h5 => h5.kept (unhide G6)
          | some p =>
            refine fun h5 => ⟨h5.1.kept (unhide G6), fun lo x1 x2 => ?_⟩
            have s1 := Nat.le_trans x2 (unhide G1).size
            have s2 := Nat.le_trans s1 (unhide G2).size
            have s4 := Nat.le_trans s2 ((unhide G3).trans (unhide G4)).size
            exact unhide H6 lo _ _ _ (Nat.le_trans s4 (unhide G5).size) (((unhide H1).2 lo x1 x2).grown g15 x1) (((unhide H3).2 lo x1 s2).grown g35 x1) (h5.2 lo x1 s4)

end Go.Proofs.YtlbpeknncakfeaaGreatDoor

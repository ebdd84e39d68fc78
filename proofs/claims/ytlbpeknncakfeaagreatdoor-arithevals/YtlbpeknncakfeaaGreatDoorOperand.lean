/-
  The reader's 'operand' on what is read below it.
-/
import Derived.Test.YtlbpeknncakfeaaGreatDoorChoice
namespace Go.Proofs.YtlbpeknncakfeaaGreatDoor
open Go.RowKit Go.Maps
attribute [local irreducible] findOp findSign

theorem findSign_ok {s : List UInt8} {f : Nat} (h : findSign s = some f) : 81 ≤ f ∧ f ≤ 84 := by
  have h2 : f ∈ signsT.map (·.2) := by unfold findSign at h; exact lookR_mem h
  have h3 : ∀ x ∈ signsT.map (·.2), 81 ≤ x ∧ x ≤ 84 := by decide
  exact h3 f h2
theorem tk_cons (c d : UInt8) (r : List UInt8) (h : sk (c :: r) = c :: r) : tk d (c :: r) = if c = d then some r else none := by
  unfold tk
  rw [h]
  by_cases hc : c = d
  · subst hc
    rw [if_pos rfl]
    have hp : Lib.hasPrefix (c :: r) [c] = true := by simp [Lib.hasPrefix]
    unfold Lib.trimPrefix
    rw [hp]
    rfl
  · rw [if_neg hc]
    have hp : Lib.hasPrefix (c :: r) [d] = false := by
      show (d == c && ([] : List UInt8).isPrefixOf r) = false
      rw [show (d == c) = false from beq_false_of_ne (fun e => hc e.symm)]
      rfl
    rw [hp]
    rfl

set_option maxRecDepth 20000 in
set_option maxHeartbeats 4000000 in
theorem operand_step (k : Nat) (iE : CE k) (iR : CR k) : CR (k + 1) := by
  intro rb b1 b2 l w h hg hk
  have IE := hide iE
  have IR := hide iR
  have hlen := h.len
  have hsl := sk_len l
  have HG := hide hg
  have H := hide h
  clear iE iR hg h
  have hss := sk_sk l
  have hpo : pOperand (k + 1) l = match sk l with
    | [] => none
    | c :: r => match findSign [c] with
      | some f => match pOperand k r with
        | none => none
        | some (x, r') => some (.sign f x, r')
      | none => if c = 40 then match pExpr k r with
          | none => none
          | some (x, r1) => match tk 41 r1 with
            | none => none
            | some r2 => some (x, r2)
        else pWord (c :: r) := by rw [pOperand]; rfl
  have hskip := skip_any rb b1 b2 l false w (unhide H)
  rcases hm : sk l with _ | ⟨c, r⟩
  · rw [hm] at hpo hskip
    have HP := hide hpo
    have HS := hide hskip
    clear hpo hskip hm hss
    go_enter Tryz.func130, Tryz.ntmps130
    go_wp2_with fail
    refine (unhide HS).mono ?_
    rintro e w1 ⟨rfl, h1, g1⟩
    have c2 := h1.c2
    have H1 := hide h1
    have G1 := hide g1
    clear h1 g1
    have hem := empty_of (s := BA []) rfl
    go_wp2_with fail
    refine (fail_any rb b1 b2 _ _ w1 (unhide H1)).mono ?_
    rintro e w5 ⟨rfl, h5, g5⟩
    have H5 := hide h5
    have G5 := hide g5
    clear h5 g5
    go_wp2
    go_ret
    refine ⟨_, rfl, .inl rfl, (unhide G1).trans (unhide G5), ?_⟩
    rw [unhide HP]
    exact unhide H5
  · rw [hm] at hpo hskip hsl hss
    have hrl : r.length + 1 ≤ l.length := hsl
    simp only [] at hpo
    have HS := hide hskip
    rcases hf : findSign [c] with _ | f
    · rw [hf] at hpo
      simp only [] at hpo
      have htk := tk_cons c 40 r hss
      have HF := hide hf
      have hskl : sk (c :: r) = c :: r := hss
      clear hskip hm hss hf hsl
      by_cases hc : c = 40
      · rw [if_pos hc] at hpo htk
        have HTK := hide htk
        rcases hx : pExpr k r with _ | ⟨x, r1⟩
        · rw [hx] at hpo
          have HP := hide hpo
          have HX := hide hx
          clear hpo htk hx hc hskl
          go_enter Tryz.func130, Tryz.ntmps130
          go_wp2_with fail
          refine (unhide HS).mono ?_
          rintro e w1 ⟨rfl, h1, g1⟩
          have hlk := look_sign h1.tabs.drew [c] (by simp)
          rw [unhide HF, show BA [c] = (BA (c :: r)).extract 0 1 from (extract_take (c :: r) 1).symm] at hlk
          simp only [signV, Option.isSome_none] at hlk
          have c1 := h1.c1
          have c2 := h1.c2
          have H1 := hide (h1.kept (grown_drew' (World.grownBy.refl w1 none)))
          have HG1 := hide (((unhide HG).rd (unhide H) g1).kept (grown_drew' (World.grownBy.refl w1 none)))
          have G1 := hide (grown_drew' g1)
          clear h1 g1
          have hem := nonempty_of (s := BA (c :: r)) (by simp)
          go_wp2_with fail
          go_region
          go_wp2_with fail
          clear hlk c1 c2 hem
          refine (take_yes 40 rb b1 b2 (c :: r) r false _ (unhide H1) (unhide HTK)).mono ?_
          rintro e w2 ⟨rfl, h2, g2⟩
          have HG2 := hide ((unhide HG1).rd (unhide H1) g2)
          have H2 := hide h2
          have G2 := hide g2
          clear h2 g2
          go_wp2_with fail
          refine (unhide IE rb b1 b2 r w2 (unhide H2) (unhide HG2) (by omega)).mono ?_
          rintro e w3 ⟨v3, rfl, hv3, g3, h3⟩
          rw [unhide HX] at h3
          have H3 := hide h3
          have G3 := hide g3
          clear h3 g3
          go_wp2_with fail
          refine (take_no 41 rb b1 b2 [] true w3 (unhide H3) (tk_nil 41)).mono ?_
          rintro e w4 ⟨rfl, h4, g4⟩
          have H4 := hide h4
          have G4 := hide g4
          clear h4 g4
          go_wp2_with fail
          refine (fail_any rb b1 b2 _ _ w4 (unhide H4)).mono ?_
          rintro e w5 ⟨rfl, h5, g5⟩
          have H5 := hide h5
          have G5 := hide g5
          clear h5 g5
          go_wp2
          go_ret
          refine ⟨_, rfl, .inl rfl, (unhide G1).trans ((unhide G2).trans ((unhide G3).trans ((unhide G4).trans (unhide G5)))), ?_⟩
          rw [unhide HP]
          exact unhide H5
        · rw [hx] at hpo
          simp only [] at hpo
          have HX := hide hx
          rcases h41 : tk 41 r1 with _ | r2
          · rw [h41] at hpo
            have HP := hide hpo
            have H41 := hide h41
            clear hpo htk hx hc hskl h41
            go_enter Tryz.func130, Tryz.ntmps130
            go_wp2_with fail
            refine (unhide HS).mono ?_
            rintro e w1 ⟨rfl, h1, g1⟩
            have hlk := look_sign h1.tabs.drew [c] (by simp)
            rw [unhide HF, show BA [c] = (BA (c :: r)).extract 0 1 from (extract_take (c :: r) 1).symm] at hlk
            simp only [signV, Option.isSome_none] at hlk
            have c1 := h1.c1
            have c2 := h1.c2
            have H1 := hide (h1.kept (grown_drew' (World.grownBy.refl w1 none)))
            have HG1 := hide (((unhide HG).rd (unhide H) g1).kept (grown_drew' (World.grownBy.refl w1 none)))
            have G1 := hide (grown_drew' g1)
            clear h1 g1
            have hem := nonempty_of (s := BA (c :: r)) (by simp)
            go_wp2_with fail
            go_region
            go_wp2_with fail
            clear hlk c1 c2 hem
            refine (take_yes 40 rb b1 b2 (c :: r) r false _ (unhide H1) (unhide HTK)).mono ?_
            rintro e w2 ⟨rfl, h2, g2⟩
            have HG2 := hide ((unhide HG1).rd (unhide H1) g2)
            have H2 := hide h2
            have G2 := hide g2
            clear h2 g2
            go_wp2_with fail
            refine (unhide IE rb b1 b2 r w2 (unhide H2) (unhide HG2) (by omega)).mono ?_
            rintro e w3 ⟨v3, rfl, hv3, g3, h3⟩
            rw [unhide HX] at h3
            have H3 := hide h3.1
            have G3 := hide g3
            clear h3 g3
            go_wp2_with fail
            refine (take_no 41 rb b1 b2 r1 false w3 (unhide H3) (unhide H41)).mono ?_
            rintro e w4 ⟨rfl, h4, g4⟩
            have H4 := hide h4
            have G4 := hide g4
            clear h4 g4
            go_wp2_with fail
            refine (fail_any rb b1 b2 _ _ w4 (unhide H4)).mono ?_
            rintro e w5 ⟨rfl, h5, g5⟩
            have H5 := hide h5
            have G5 := hide g5
            clear h5 g5
            go_wp2
            go_ret
            refine ⟨_, rfl, .inl rfl, (unhide G1).trans ((unhide G2).trans ((unhide G3).trans ((unhide G4).trans (unhide G5)))), ?_⟩
            rw [unhide HP]
            exact unhide H5
          · rw [h41] at hpo
            have HP := hide hpo
            have H41 := hide h41
            clear hpo htk hx hc hskl h41
            go_enter Tryz.func130, Tryz.ntmps130
            go_wp2_with fail
            refine (unhide HS).mono ?_
            rintro e w1 ⟨rfl, h1, g1⟩
            have hlk := look_sign h1.tabs.drew [c] (by simp)
            rw [unhide HF, show BA [c] = (BA (c :: r)).extract 0 1 from (extract_take (c :: r) 1).symm] at hlk
            simp only [signV, Option.isSome_none] at hlk
            have c1 := h1.c1
            have c2 := h1.c2
            have H1 := hide (h1.kept (grown_drew' (World.grownBy.refl w1 none)))
            have HG1 := hide (((unhide HG).rd (unhide H) g1).kept (grown_drew' (World.grownBy.refl w1 none)))
            have G1 := hide (grown_drew' g1)
            clear h1 g1
            have hem := nonempty_of (s := BA (c :: r)) (by simp)
            go_wp2_with fail
            go_region
            go_wp2_with fail
            clear hlk c1 c2 hem
            refine (take_yes 40 rb b1 b2 (c :: r) r false _ (unhide H1) (unhide HTK)).mono ?_
            rintro e w2 ⟨rfl, h2, g2⟩
            have HG2 := hide ((unhide HG1).rd (unhide H1) g2)
            have H2 := hide h2
            have G2 := hide g2
            clear h2 g2
            go_wp2_with fail
            refine (unhide IE rb b1 b2 r w2 (unhide H2) (unhide HG2) (by omega)).mono ?_
            rintro e w3 ⟨v3, rfl, hv3, g3, h3⟩
            rw [unhide HX] at h3
            have H3 := hide h3
            have G3 := hide g3
            clear h3 g3
            go_wp2_with fail
            refine (take_yes 41 rb b1 b2 r1 r2 false w3 (unhide H3).1 (unhide H41)).mono ?_
            rintro e w4 ⟨rfl, h4, g4⟩
            have H4 := hide h4
            have G4 := hide g4
            clear h4 g4
            go_wp2
            go_ret
            refine ⟨v3, rfl, hv3, (unhide G1).trans ((unhide G2).trans ((unhide G3).trans (unhide G4))), ?_⟩
            rw [unhide HP]
            exact ⟨unhide H4, fun lo x1 x2 => ((unhide H3).2 lo x1 (Nat.le_trans x2 (Nat.le_trans (unhide G1).size (unhide G2).size))).grown (unhide G4) x1⟩
      · rw [if_neg hc] at hpo htk
        have HTK := hide htk
        have HP := hide hpo
        have HSK := hide hskl
        clear hpo htk hc hskl
        go_enter Tryz.func130, Tryz.ntmps130
        go_wp2_with fail
        refine (unhide HS).mono ?_
        rintro e w1 ⟨rfl, h1, g1⟩
        have hlk := look_sign h1.tabs.drew [c] (by simp)
        rw [unhide HF, show BA [c] = (BA (c :: r)).extract 0 1 from (extract_take (c :: r) 1).symm] at hlk
        simp only [signV, Option.isSome_none] at hlk
        have c1 := h1.c1
        have c2 := h1.c2
        have H1 := hide (h1.kept (grown_drew' (World.grownBy.refl w1 none)))
        have HG1 := hide (((unhide HG).rd (unhide H) g1).kept (grown_drew' (World.grownBy.refl w1 none)))
        have G1 := hide (grown_drew' g1)
        clear h1 g1
        have hem := nonempty_of (s := BA (c :: r)) (by simp)
        go_wp2_with fail
        go_region
        go_wp2_with fail
        clear hlk c1 c2 hem
        refine (take_no 40 rb b1 b2 (c :: r) false _ (unhide H1) (unhide HTK)).mono ?_
        rintro e w2 ⟨rfl, h2, g2⟩
        rw [unhide HSK] at h2
        have HG2 := hide ((unhide HG1).rd (unhide H1) g2)
        have H2 := hide h2
        have G2 := hide g2
        clear h2 g2
        go_wp2_with fail
        refine (word_any rb b1 b2 (c :: r) w2 (unhide H2) (unhide HG2)).mono ?_
        rintro e w3 ⟨v3, rfl, hv3, g3, h3⟩
        have H3 := hide h3
        have G3 := hide g3
        clear h3 g3
        go_wp2
        go_ret
        refine ⟨v3, rfl, hv3, (unhide G1).trans ((unhide G2).trans (unhide G3)), ?_⟩
        rw [unhide HP]
        have h3 := unhide H3
        revert h3
        cases pWord (c :: r) with
        | none => exact id
        | some p => exact fun h3 => ⟨h3.1, fun lo x1 x2 => h3.2 lo x1 (Nat.le_trans x2 (Nat.le_trans (unhide G1).size (unhide G2).size))⟩
    · rw [hf] at hpo
      have HP := hide hpo
      have HF := hide hf
      clear hpo hskip hm hss hf hsl
      go_enter Tryz.func130, Tryz.ntmps130
      go_wp2_with fail
      refine (unhide HS).mono ?_
      rintro e w1 ⟨rfl, h1, g1⟩
      have hlk := look_sign h1.tabs.drew [c] (by simp)
      rw [unhide HF, show BA [c] = (BA (c :: r)).extract 0 1 from (extract_take (c :: r) 1).symm] at hlk
      simp only [signV, Option.isSome_some, fnV] at hlk
      have c1 := h1.c1
      have c2 := h1.c2
      have f2 := h1.blk.frozen 2
      have H1 := hide h1
      have HG1 := hide ((unhide HG).rd (unhide H) g1)
      have G1 := hide g1
      clear h1 g1
      have hem := nonempty_of (s := BA (c :: r)) (by simp)
      go_wp2_with fail
      go_region
      go_wp2_with fail
      rw [show (BA (c :: r)).extract 1 (r.length + 1) = BA r from extract_drop (c :: r) 1]
      have hX := ((unhide H1).set r (by omega)).kept (grown_drew' (World.grownBy.refl _ none))
      have gX := grown_drew' (grown_setCell w1 ⟨rb, 2, none⟩ (.string (BA r)))
      have HGX := hide ((unhide HG1).rd (unhide H1) gX)
      obtain ⟨X, hXe⟩ : ∃ X, X = (w1.setCell ⟨rb, 2, none⟩ (.string (BA r))).drew := ⟨_, rfl⟩
      rw [← hXe] at hX gX HGX ⊢
      have HX := hide hX
      have GX := hide ((unhide G1).trans gX)
      clear hX gX hXe c1 c2 f2 hlk hem H1 HG1 G1
      refine (unhide IR rb b1 b2 r X (unhide HX) (unhide HGX) (by omega)).mono ?_
      rintro e w2 ⟨v, rfl, hv, g2, h2⟩
      have H2 := hide h2
      have G2 := hide g2
      clear h2 g2
      go_wp2_with fail
      refine (turning_any f v hv w2 (findSign_ok (unhide HF))).mono ?_
      rintro e w3 ⟨v3, rfl, hv3, g3, h3⟩
      have H3 := hide h3
      have G3 := hide g3
      clear h3 g3
      go_wp2
      go_ret
      refine ⟨v3, rfl, hv3, (unhide GX).trans ((unhide G2).trans (grown_but (unhide G3) _)), ?_⟩
      rw [unhide HP]
      have h2 := unhide H2
      revert h2
      cases pOperand k r with
      | none => exact fun h2 => h2.kept (unhide G3)
      | some p => exact fun h2 => ⟨h2.1.kept (unhide G3), fun lo x1 x2 => unhide H3 lo p.1 (Nat.le_trans x2 (Nat.le_trans (unhide GX).size (unhide G2).size)) (h2.2 lo x1 (Nat.le_trans x2 (unhide GX).size))⟩

end Go.Proofs.YtlbpeknncakfeaaGreatDoor

/-
  The reader's 'expression', 'choice' on what is read below them.
-/
import Derived.Test.YtlbpeknncakfeaaGreatDoorParse
import Derived.Deep.QuietTactic
import Derived.BigQuiet
namespace Go.Proofs.YtlbpeknncakfeaaGreatDoor
open Go.RowKit Go.Maps
attribute [local irreducible] findOp findSign

def CE (k : Nat) : Prop := ∀ (rb b1 b2 : Nat) (l : List UInt8) (w : World), Rd w rb b1 b2 l false → Glob w → 5 * l.length + 5 ≤ k → Calls Tryz.prog 42 #[.pointer (some ⟨rb, 0, none⟩)] w fun e w' => PEnd w rb b1 b2 (pExpr k l) e w'
def CC (k : Nat) : Prop := ∀ (rb b1 b2 : Nat) (l : List UInt8) (w : World), Rd w rb b1 b2 l false → Glob w → 5 * l.length + 4 ≤ k → Calls Tryz.prog 87 #[.pointer (some ⟨rb, 0, none⟩)] w fun e w' => PEnd w rb b1 b2 (pChoice k l) e w'
def CO (k : Nat) : Prop := ∀ (n rb b1 b2 : Nat) (l : List UInt8) (w : World), Rd w rb b1 b2 l false → Glob w → 0 < n → n ≤ 11 → 5 * l.length + 3 ≤ k → Calls Tryz.prog 109 #[.pointer (some ⟨rb, 0, none⟩), .int .i64 n] w fun e w' => PEnd w rb b1 b2 (pOp k n l) e w'
def CR (k : Nat) : Prop := ∀ (rb b1 b2 : Nat) (l : List UInt8) (w : World), Rd w rb b1 b2 l false → Glob w → 5 * l.length + 1 ≤ k → Calls Tryz.prog 130 #[.pointer (some ⟨rb, 0, none⟩)] w fun e w' => PEnd w rb b1 b2 (pOperand k l) e w'

theorem frontN_le (l : List UInt8) : frontN l ≤ l.length := by
  cases l with
  | nil => exact Nat.le_refl _
  | cons c l =>
    show (if alpB (c.toNat : Int) = true then spanN namB (c :: l) else 0) ≤ _
    split
    · exact spanN_le _ _
    · exact Nat.zero_le _
theorem grown_drewN (w : World) (n : Nat) : w.grownBy (w.drewN n) none := ⟨rfl, rfl, rfl, Nat.le_refl _, fun _ _ _ => rfl⟩
theorem Glob.kept {w w' : World} (h : Glob w) (hg : w.grownBy w' none) : Glob w' := h.below (below_of_grown hg)

theorem findOp_nil : findOp [] = none := by unfold findOp; decide
theorem setOps_op {op : List UInt8} (h : op ∈ setOps) (hne : op ≠ []) : ∃ o, findOp op = some o ∧ OprOk o := by
  have h2 : (findOp op).isSome = true := by
    unfold setOps at h
    simp only [List.mem_cons, List.not_mem_nil, or_false] at h
    unfold findOp
    rcases h with rfl | rfl | rfl | rfl | rfl | rfl
    · exact absurd rfl hne
    · decide
    · decide
    · decide
    · decide
    · decide
  obtain ⟨o, ho⟩ := Option.isSome_iff_exists.1 h2
  exact ⟨o, ho, by unfold findOp at ho; exact lookR_mem ho⟩

set_option maxRecDepth 20000 in
set_option maxHeartbeats 4000000 in
theorem expr_step (k : Nat) (iE : CE k) (iC : CC k) : CE (k + 1) := by
  intro rb b1 b2 l w h hg hk
  have IE := hide iE
  have IC := hide iC
  have hlen := h.len
  have hsl := sk_len l
  have H := hide h
  have HG := hide hg
  clear iE iC h hg
  go_enter Tryz.func42, Tryz.ntmps42
  go_wp2_with fail
  refine (skip_any rb b1 b2 l false w (unhide H)).mono ?_
  rintro e w1 ⟨rfl, h1, g1⟩
  obtain ⟨m, hm⟩ : ∃ m, m = sk l := ⟨_, rfl⟩
  have HM := hide hm
  rw [← hm] at h1 hsl
  clear hm
  have c2 := h1.c2
  have HG1 := hide ((unhide HG).rd (unhide H) g1)
  have H1 := hide h1
  have G1 := hide g1
  clear h1 g1 H HG
  have hfl := frontN_le m
  obtain ⟨fn, hfn⟩ : ∃ fn, fn = frontN m := ⟨_, rfl⟩
  have HFN := hide hfn
  have HF : Hid (∀ w, Calls Tryz.prog 85 #[.string (BA m)] w fun e w' => e = .returned (.int .i64 (fn : Nat)) ∧ w' = w) := hide (by intro w; rw [hfn]; exact front_any (BA m) w (by rw [BA_size]; omega))
  rw [← hfn] at hfl
  clear hfn
  go_wp2_with fail
  go_quiet ((go_at_call 85; exact Calls.quiet_of_same (unhide HF _)))
  go_wp2_with fail
  simp only [extract_drop, extract_take]
  have hd := grown_drewN w1 nq
  have H2 := hide ((unhide H1).kept hd)
  have HG2 := hide ((unhide HG1).kept hd)
  have G2 := hide ((unhide G1).trans (grown_but hd (some rb)))
  obtain ⟨Y, hY⟩ : ∃ Y, Y = w1.drewN nq := ⟨_, rfl⟩
  rw [← hY] at H2 HG2 G2 ⊢
  clear hd hY H1 HG1 G1 c2 HF
  have hss := settingSign_any (m.drop fn) Y
  rcases Nat.eq_zero_or_pos fn with h0 | h0
  · have hem := empty_of (s := BA (m.take fn)) (by rw [BA_size, List.length_take]; omega)
    have HSA : Hid (setAt m = none) := hide (by
      unfold setAt nameOf
      rw [← unhide HFN, h0]; rfl)
    clear h0
    rcases hsg : setSign (m.drop fn) with _ | ⟨op, bh⟩
    all_goals
      rw [hsg] at hss
      have HSS := hide hss
      clear hss hsg
      refine (unhide HSS).mono ?_
      rintro e w3 ⟨he, g3⟩
      have H3 := hide ((unhide H2).kept g3)
      have HG3 := hide ((unhide HG2).kept g3)
      have G3 := hide (grown_but g3 (some rb))
      clear g3
    · have he2 : e = .returned (.tuple #[.string (BA []), .string (BA []), .bool false]) := he
      subst he2
      clear he
      go_wp2_with fail
      refine (unhide IC rb b1 b2 m w3 (unhide H3) (unhide HG3) (by omega)).mono ?_
      rintro e w4 ⟨v, rfl, hv, g4, hr⟩
      have HR := hide hr
      clear hr
      go_wp2
      go_ret
      refine ⟨v, rfl, hv, ((unhide G2).trans (unhide G3)).trans g4, ?_⟩
      rw [pExpr, ← unhide HM, show setAt m = none from unhide HSA]
      have hr := unhide HR
      revert hr
      cases pChoice k m with
      | none => exact id
      | some p => exact fun hr => ⟨hr.1, fun lo h1 h2 => hr.2 lo h1 (Nat.le_trans h2 (Nat.le_trans (unhide G2).size (unhide G3).size))⟩
    · have he2 : e = .returned (.tuple #[.string (BA op), .string (BA bh), .bool true]) := he
      subst he2
      clear he
      go_wp2_with fail
      refine (unhide IC rb b1 b2 m w3 (unhide H3) (unhide HG3) (by omega)).mono ?_
      rintro e w4 ⟨v, rfl, hv, g4, hr⟩
      have HR := hide hr
      clear hr
      go_wp2
      go_ret
      refine ⟨v, rfl, hv, ((unhide G2).trans (unhide G3)).trans g4, ?_⟩
      rw [pExpr, ← unhide HM, show setAt m = none from unhide HSA]
      have hr := unhide HR
      revert hr
      cases pChoice k m with
      | none => exact id
      | some p => exact fun hr => ⟨hr.1, fun lo h1 h2 => hr.2 lo h1 (Nat.le_trans h2 (Nat.le_trans (unhide G2).size (unhide G3).size))⟩
  · have hem := nonempty_of (s := BA (m.take fn)) (by rw [BA_size, List.length_take]; omega)
    have hne : (nameOf m).isEmpty = false := by
      unfold nameOf
      rw [← unhide HFN]
      cases hm : m.take fn with
      | nil =>
        have h9 := congrArg List.length hm
        rw [List.length_take, List.length_nil] at h9
        omega
      | cons => rfl
    rcases hsg : setSign (m.drop fn) with _ | ⟨op, bh⟩
    · rw [hsg] at hss
      have HSA : Hid (setAt m = none) := hide (by unfold setAt; rw [hne, ← unhide HFN, hsg]; rfl)
      have HSS := hide hss
      clear hss hsg hne
      refine (unhide HSS).mono ?_
      rintro e w3 ⟨he, g3⟩
      have H3 := hide ((unhide H2).kept g3)
      have HG3 := hide ((unhide HG2).kept g3)
      have G3 := hide (grown_but g3 (some rb))
      clear g3
      have he2 : e = .returned (.tuple #[.string (BA []), .string (BA []), .bool false]) := he
      subst he2
      clear he
      go_wp2_with fail
      refine (unhide IC rb b1 b2 m w3 (unhide H3) (unhide HG3) (by omega)).mono ?_
      rintro e w4 ⟨v, rfl, hv, g4, hr⟩
      have HR := hide hr
      clear hr
      go_wp2
      go_ret
      refine ⟨v, rfl, hv, ((unhide G2).trans (unhide G3)).trans g4, ?_⟩
      rw [pExpr, ← unhide HM, show setAt m = none from unhide HSA]
      have hr := unhide HR
      revert hr
      cases pChoice k m with
      | none => exact id
      | some p => exact fun hr => ⟨hr.1, fun lo h1 h2 => hr.2 lo h1 (Nat.le_trans h2 (Nat.le_trans (unhide G2).size (unhide G3).size))⟩
    · rw [hsg] at hss
      have hsa : setAt m = some (op, bh) := by unfold setAt; rw [hne, ← unhide HFN, hsg]; rfl
      have hbl := setAt_len hsa
      have HSA : Hid (setAt m = some (op, bh)) := hide hsa
      have HSS := hide hss
      clear hss hsg hne hsa
      refine (unhide HSS).mono ?_
      rintro e w3 ⟨he, g3⟩
      have h3 := (unhide H2).kept g3
      have c2 := h3.c2
      have f2 := h3.blk.frozen 2
      have H3 := hide h3
      have HG3 := hide ((unhide HG2).kept g3)
      have G3 := hide (grown_but g3 (some rb))
      clear g3 h3
      have he2 : e = .returned (.tuple #[.string (BA op), .string (BA bh), .bool true]) := he
      subst he2
      clear he
      go_wp2_with fail
      have hX := (unhide H3).set bh (by omega)
      have gX := grown_setCell w3 ⟨rb, 2, none⟩ (.string (BA bh))
      have HGX := hide ((unhide HG3).rd (unhide H3) gX)
      obtain ⟨X, hXe⟩ : ∃ X, X = w3.setCell ⟨rb, 2, none⟩ (.string (BA bh)) := ⟨_, rfl⟩
      rw [← hXe] at hX gX HGX ⊢
      have HX := hide hX
      have GX := hide (((unhide G2).trans (unhide G3)).trans gX)
      clear hX gX hXe c2 f2 H3 HG3 G3 H2 HG2 G2 HSS
      refine (unhide IE rb b1 b2 bh X (unhide HX) (unhide HGX) (by omega)).mono ?_
      rintro e w4 ⟨v, rfl, hv, g4, hr⟩
      have hnl : (m.take fn).length ≤ 100000 := by rw [List.length_take]; omega
      by_cases hop : op = []
      · have hoe := empty_of (s := BA op) (by rw [hop]; rfl)
        have HFO : Hid (findOp op = none) := hide (by rw [hop]; exact findOp_nil)
        have G4 := hide g4
        have HR := hide hr
        clear hop g4 hr
        go_wp2_with fail
        refine (setting_any (m.take fn) hnl v hv w4).mono ?_
        rintro e w5 ⟨v5, rfl, hv5, g5, hr5⟩
        have HR5 := hide hr5
        have G5 := hide g5
        clear hr5 g5
        go_wp2
        go_ret
        refine ⟨v5, rfl, hv5, (unhide GX).trans ((unhide G4).trans (grown_but (unhide G5) _)), ?_⟩
        rw [pExpr, ← unhide HM, show setAt m = some (op, bh) from unhide HSA]
        have hr := unhide HR
        revert hr
        simp only []
        cases pExpr k bh with
        | none => exact fun hr => hr.kept (unhide G5)
        | some p =>
          refine fun hr => ⟨hr.1.kept (unhide G5), fun lo h1 h2 => ?_⟩
          have hx := hr.2 lo h1 (Nat.le_trans h2 (unhide GX).size)
          have hy := unhide HR5 lo p.1 (Nat.le_trans h2 (Nat.le_trans (unhide GX).size (unhide G4).size)) hx
          unfold mkSet nameOf
          rw [show findOp op = none from unhide HFO, ← unhide HFN]
          exact hy
      · have hoe := nonempty_of (s := BA op) (by
          rw [BA_size]
          cases op with
          | nil => exact absurd rfl hop
          | cons => simp)
        obtain ⟨o, hfo, hok⟩ := setOps_op hbl.2.1 hop
        have HFO : Hid (findOp op = some o) := hide hfo
        have hol : op.length ≤ 100000 := by
          have : ∀ x ∈ setOps, x.length ≤ 1 := by decide
          have := this op hbl.2.1
          omega
        have hlook : ∃ cs, cs = o.cells ∧ (Instr.lookup 82 (.map (some b1)) (.string (BA op)) false).run Tryz.prog w4 = .ok (.agg cs) w4 ∧ w4.cell? ⟨rb, 0, none⟩ = some (.map (some b1)) := by
          refine ⟨_, rfl, ?_⟩
          revert hr
          cases pExpr k bh with
          | none => exact fun hr => ⟨look_op1 hr.tabs op hol o hfo, hr.c0⟩
          | some p => exact fun hr => ⟨look_op1 hr.1.tabs op hol o hfo, hr.1.c0⟩
        obtain ⟨cs, hcs, hlk, c0⟩ := hlook
        have HCS := hide hcs
        have G4 := hide g4
        have HR := hide hr
        clear hop g4 hr hfo hcs
        go_wp2_with fail
        rw [unhide HCS]
        refine (changing_any (m.take fn) hnl o hok v hv w4).mono ?_
        rintro e w5 ⟨v5, rfl, hv5, g5, hr5⟩
        have HR5 := hide hr5
        have G5 := hide g5
        clear hr5 g5
        go_wp2
        go_ret
        refine ⟨v5, rfl, hv5, (unhide GX).trans ((unhide G4).trans (grown_but (unhide G5) _)), ?_⟩
        rw [pExpr, ← unhide HM, show setAt m = some (op, bh) from unhide HSA]
        have hr := unhide HR
        revert hr
        simp only []
        cases pExpr k bh with
        | none => exact fun hr => hr.kept (unhide G5)
        | some p =>
          refine fun hr => ⟨hr.1.kept (unhide G5), fun lo h1 h2 => ?_⟩
          have hx := hr.2 lo h1 (Nat.le_trans h2 (unhide GX).size)
          have hy := unhide HR5 lo p.1 (Nat.le_trans h2 (Nat.le_trans (unhide GX).size (unhide G4).size)) hx
          unfold mkSet nameOf
          rw [show findOp op = some o from unhide HFO, ← unhide HFN]
          exact hy

end Go.Proofs.YtlbpeknncakfeaaGreatDoor

/-
  A token: the lexer's 'token'.
-/
import Derived.Test.YtlmpdfeidjnmnaaDoorWord
import Derived.Test.YtlmpdfeidjnmnaaDoorOper2
namespace Go.Proofs.YtlmpdfeidjnmnaaDoor
open Go.RowKit

set_option maxRecDepth 20000 in
set_option maxHeartbeats 8000000 in
theorem token_state (w : World) (b : Nat) (v u : Value) (s : ByteArray) (r : Nat) (ps ks : List Nat) (st : LS) (m : Int) (h : LexAt w b v u s r ps ks st) (hf : st.flt = 0) (hne : st.rest ≠ []) (hw : st.wait.length ≤ 100000) (hl : st.toks.length ≤ 100000) (hm : w.cell? ⟨1, 0, none⟩ = some (.int .i64 m)) (ho : OpsAt w) (hb1 : 1 < b) :
    Calls Tryd.prog 20 #[.pointer (some ⟨b, 0, none⟩)] w fun e w' => e = .returned (.tuple #[]) ∧ ∃ v' u' r' d' ps' ks', LexX w' b v' u' s r' d' ps' ks' (tokenL s.size st) ∧ GrownS w w' (fun y => b ≤ y) := by
  have hr := h.rdr
  have hdr := h.rest hf
  obtain ⟨c, R, hcR⟩ : ∃ c R, st.rest = c :: R := by
    cases hx : st.rest with
    | nil => exact absurd hx hne
    | cons c R => exact ⟨c, R, rfl⟩
  rw [hcR] at hdr
  have hrs : r < s.size := by
    rcases Nat.lt_or_ge r s.size with h' | h'
    · exact h'
    · rw [drop_nil h'] at hdr; cases hdr
  have hRl : s.size - (R.length + 1) = r := by
    have := congrArg List.length hdr
    rw [List.length_drop, data_len, List.length_cons] at this
    omega
  have HTL : Hid (tokenL s.size st = if c = 10 then newlineL { st with rest := R } (r : Int) else if opL (c :: R) = [] then wordTok s.size st else ({ st with rest := (c :: R).drop (opL (c :: R)).length } : LS).add 2 (opL (c :: R)) (r : Int)) := hide (by
    unfold tokenL
    rw [hcR]
    simp only [hRl])
  have hlen := hr.len
  have hrle := hr.le
  have c1 := hr.c1
  have c2 := hr.c2
  have HOP : Hid (∀ W, OpsAt W → Calls Tryd.prog 39 #[.string (s.extract r s.size)] W fun e w' => e = .returned (.string (BA (opL (c :: R)))) ∧ w' = W) := hide (fun W hW => by
    rw [extract_end, hdr]
    exact operator_any (c :: R) W hW)
  obtain ⟨O, hO⟩ : ∃ O, O = opL (c :: R) := ⟨_, rfl⟩
  have HOL : Hid (O.length ≤ 3 ∧ (O ≠ [] → r + O.length ≤ s.size ∧ s.data.toList.drop (r + O.length) = (c :: R).drop O.length)) := hide (by
    refine ⟨by rw [hO]; exact opL_len _, fun hn => ⟨?_, by rw [← List.drop_drop, hdr]⟩⟩
    have h1 := opL_pre (c :: R)
    rw [← hO] at h1
    have h2 := h1.length_le
    rw [← hdr, List.length_drop, data_len] at h2
    omega)
  rw [← hO] at HOP HTL
  have HH := hide h
  have HD := hide hdr
  have HC := hide hcR
  have HM := hide hm
  have hodw : ∀ n, OpsAt (w.drewN n) := fun n => ho.grown (grown_drewN w n)
  have HO2 := hide hodw
  have hbl := hr.blk.lt
  clear hr hdr hRl hO h hm hcR hne ho hodw
  go_enter Tryd.func20, Tryd.ntmps20
  go_wp2_with fail
  go_quiet ((go_at_call 39; exact Calls.quiet_of_same (unhide HOP _ (unhide HO2 _))))
  obtain ⟨w1, hw1⟩ : ∃ x, x = w.drewN nq := ⟨_, rfl⟩
  rw [← hw1]
  have h1 : LexAt w1 b v u s r ps ks st := by rw [hw1]; exact (unhide HH).below (below_drew _ _) (Nat.le_refl _)
  have G1 : Hid (GrownS w w1 (fun y => b ≤ y)) := hide (by rw [hw1]; exact grownS_of_below (below_drew _ _))
  have HS := hide (sees_any ⟨#[10]⟩ h1.rdr)
  have H1 := hide h1
  rw [show (⟨#[10]⟩ : ByteArray).data.toList = [10] from rfl, unhide HD, hasP_one] at HS
  clear hw1 h1 c1 c2 HOP HO2 HH
  go_wp2_with fail
  refine (unhide HS).mono ?_
  rintro en w2 ⟨rfl, k2, hw2⟩
  have h2 : LexAt w2 b v u s r ps ks st := by rw [hw2]; exact (unhide H1).below (below_drew _ _) (Nat.le_refl _)
  have G2 : Hid (GrownS w w2 (fun y => b ≤ y)) := hide ((unhide G1).trans (by rw [hw2]; exact grownS_of_below (below_drew _ _)))
  have hm2 : w2.cell? ⟨1, 0, none⟩ = some (.int .i64 m) := by
    rw [World.cell?_of_block ((unhide G2).block 1 (by omega) (by omega))]
    exact unhide HM
  have H2 := hide h2
  have HM2 := hide hm2
  clear hw2 h2 HS H1 G1 hm2
  by_cases hc : c = 10
  · subst hc
    have HN := hide (newline_state w2 b v u s r ps ks st R m (unhide H2) hf (unhide HC) hl hw (unhide HM2) hb1)
    rw [if_pos rfl] at HTL
    go_wp2_with fail
    refine (unhide HN).mono ?_
    rintro en w3 ⟨rfl, v3, u3, r3, ps3, ks3, h3, g3⟩
    have H3 := hide h3
    have G3 := hide g3
    clear h3 g3 HN
    go_wp2
    refine bodyPost_end (res0 rfl _ _) rfl ?_
    refine ⟨rfl, v3, u3, r3, 0, ps3, ks3, ?_, (unhide G2).trans (unhide G3)⟩
    rw [unhide HTL]
    exact (unhide H3).x
  · have hcb : (c == 10) = false := beq_false_of_ne hc
    rw [if_neg hc] at HTL
    rw [hcb]
    clear hcb
    by_cases hO0 : O = []
    · subst hO0
      rw [if_pos rfl] at HTL
      have HN := hide (word_state w2 b v u s r ps ks st m (unhide H2) hf hw hl (unhide HM2) hb1)
      have e0 : (BA []).toList.isEmpty = true := by rw [ByteArray.toList_eq]; rfl
      go_wp2_with fail
      refine (unhide HN).mono ?_
      rintro en w3 ⟨rfl, v3, u3, r3, d3, ps3, ks3, h3, g3⟩
      have H3 := hide h3
      have G3 := hide g3
      clear h3 g3 HN
      go_wp2
      refine bodyPost_end (res0 rfl _ _) rfl ?_
      refine ⟨rfl, v3, u3, r3, d3, ps3, ks3, ?_, (unhide G2).trans (unhide G3)⟩
      rw [unhide HTL]
      exact unhide H3
    · rw [if_neg hO0] at HTL
      have hle3 := (unhide HOL).1
      obtain ⟨hq, hdq⟩ := (unhide HOL).2 hO0
      have e0 : (BA O).toList.isEmpty = false := by
        rw [ByteArray.toList_eq, BA_list]
        cases O with
        | nil => exact absurd rfl hO0
        | cons x O => rfl
      obtain ⟨q, hqe⟩ : ∃ q, q = r + O.length := ⟨_, rfl⟩
      rw [← hqe] at hq hdq
      have hwq : IntKind.i64.wrap ((r : Int) + (O.length : Int)) = (q : Int) := by rw [IntKind.wrap_i64]; omega
      have c2 := (unhide H2).rdr.c2
      have HN := hide (add_state w2 b v u s r ps ks st 2 (r : Int) O (unhide H2) hf hl)
      have HDQ := hide hdq
      clear hqe hdq hO0
      go_wp2_with fail
      refine (unhide HN).mono ?_
      rintro en w3 ⟨rfl, v3, ps3, h3, g3⟩
      have d2 := h3.rdr.c2
      have z2 := h3.rdr.blk.frozen 2
      have H3 := hide h3
      have G3 := hide g3
      clear h3 g3 HN c2
      go_wp2
      refine bodyPost_end (res0 rfl _ _) rfl ?_
      have gs := grown_setCell w3 ⟨b, 2, none⟩ (.int .i64 (q : Int))
      refine ⟨rfl, v3, u, q, 0, ps3, ks, ?_, (unhide G2).trans ((unhide G3).trans (grownS_own gs))⟩
      rw [unhide HTL]
      refine (unhide H3).x.move (st1 := ({ st with rest := (c :: R).drop O.length } : LS).add 2 O (r : Int)) gs ?_ rfl rfl (fun _ => unhide HDQ) (unhide H2).zero (fun _ => rfl)
      exact (unhide H3).rdr.to q hq

end Go.Proofs.YtlmpdfeidjnmnaaDoor

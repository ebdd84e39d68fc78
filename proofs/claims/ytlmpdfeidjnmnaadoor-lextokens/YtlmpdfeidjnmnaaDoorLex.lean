/-
  'Lex' is what the pure lexer answers.
-/
import Derived.Test.YtlmpdfeidjnmnaaDoorToken
namespace Go.Proofs.YtlmpdfeidjnmnaaDoor
open Go.RowKit

theorem ownsRow_mono {w : World} {base base' n sz : Nat} {e : TypeId} {v : Value} {xs : List Value} (h : w.ownsRow base' e sz v n xs) (hb : base ≤ base') : w.ownsRow base e sz v n xs := by
  obtain ⟨h0, h1 | ⟨g, cap, cur, h1, h2, h3⟩⟩ := h
  · exact ⟨h0, .inl h1⟩
  · exact ⟨h0, .inr ⟨g, cap, cur, h1, Nat.le_trans hb h2, h3⟩⟩
/-- 'skip' on the lexer's whole state. -/
theorem skip_state (w : World) (b : Nat) (v u : Value) (s : ByteArray) (r d : Nat) (ps ks : List Nat) (st : LS) (m : Int) (h : LexX w b v u s r d ps ks st) (hm : w.cell? ⟨1, 0, none⟩ = some (.int .i64 m)) (hb1 : 1 < b) :
    Calls Tryd.prog 18 #[.pointer (some ⟨b, 0, none⟩)] w fun e w' => e = .returned (.tuple #[]) ∧ ∃ r', LexX w' b v u s r' d ps ks (skipped st) ∧ GrownS w w' (fun y => b ≤ y) := by
  by_cases hf : st.flt = 0
  · have hr := h.rdr
    rw [hf, h.zero hf] at hr
    refine (skip_any w b [v, u] s r d (s.size - r + 1) m hr (Nat.le_refl _) hm hb1).mono ?_
    rintro e w' ⟨rfl, hg, q, hq, hr'⟩
    refine ⟨rfl, q, ?_, grownS_own hg⟩
    have e1 : skipped st = { st with rest := s.data.toList.drop q } := by
      unfold skipped
      rw [if_pos hf, hq, ← h.rest hf, List.length_drop, data_len]
    rw [e1]
    refine h.move (st1 := { st with rest := s.data.toList.drop q }) hg ?_ rfl rfl (fun _ => rfl) h.zero h.deep
    show Rdr w' b 53 [v, u] s q d st.flt st.blm
    rw [hf, h.zero hf]
    exact hr'
  · refine (skip_bad w b [v, u] s r d st.flt st.blm h.rdr hf).mono ?_
    rintro e w' ⟨rfl, k, rfl⟩
    have e1 : skipped st = st := by unfold skipped; rw [if_neg hf]
    rw [e1]
    exact ⟨rfl, r, h.below (below_drew _ _) (Nat.le_refl _), grownS_of_below (below_drew _ _)⟩

/-- What is known at the head of the loop of 'Lex'. -/
structure LoopAt (w : World) (b : Nat) (s : ByteArray) (T : LS) (wr : World) (v u : Value) (r d : Nat) (ps ks : List Nat) (st : LS) (F : Nat) : Prop where
  x : LexX wr b v u s r d ps ks st
  g : GrownS w wr (fun y => b ≤ y)
  few : Few s.size st
  fin : finL s.size F st = T
  fuel : st.flt = 0 → st.rest.length ≤ F
  head : st.flt = 0 → ∀ c R, st.rest = c :: R → blkB (c.toNat : Int) = false
theorem skipped_head {st : LS} : (skipped st).flt = 0 → ∀ c R, (skipped st).rest = c :: R → blkB (c.toNat : Int) = false := by
  unfold skipped
  split
  · intro _ c R h
    exact (skL_head _ _ (Nat.lt_succ_self _) c R h).1
  · next hf => intro h; exact absurd h hf

set_option maxRecDepth 20000 in
set_option maxHeartbeats 8000000 in
theorem lex_any (s : ByteArray) (m : Int) (w : World) (hs : s.size ≤ 100000) (hm : w.cell? ⟨1, 0, none⟩ = some (.int .i64 m)) (ho : OpsAt w) (h1 : 1 < w.heap.size) :
    Calls Tryd.prog 12 #[.string s] w fun e w' => ∃ v, e = .returned (.tuple #[v, .int .i64 (lexL s.data.toList).2.1, .int .i64 (lexL s.data.toList).2.2]) ∧ Below w.heap.size w w' ∧ w'.ownsRow w.heap.size 37 5 v (lexL s.data.toList).1.length (flatT (lexL s.data.toList).1) := by
  by_cases hbig : 4096 < s.size
  · have hL : lexL s.data.toList = ([], 0, 3) := by unfold lexL; rw [data_len, if_pos hbig]
    rw [hL]
    have hb' : (4096 : Int) < (s.size : Int) := by omega
    clear hL hm ho
    go_enter Tryd.func12, Tryd.ntmps12
    go_wp2
    go_ret3
    exact ⟨_, rfl, Below.refl _ _, World.ownsRow_nil _ _ _ _⟩
  obtain ⟨T, hT⟩ : ∃ T, T = loopL s.size (s.size + 1) ⟨s.data.toList, [], [], 0, 0⟩ := ⟨_, rfl⟩
  obtain ⟨T1, hT1⟩ : ∃ T1 : LS, T1 = (match T.wait with
    | [] => T
    | x :: _ => T.fail 12 (T.posOf x.tok)) := ⟨_, rfl⟩
  have HL : Hid (lexL s.data.toList = (T1.toks, T1.blm, T1.flt)) := hide (by
    unfold lexL
    rw [data_len, if_neg hbig, ← hT, hT1]
    rfl)
  rw [unhide HL]
  obtain ⟨st0, hst0⟩ : ∃ x : LS, x = ⟨s.data.toList, [], [], 0, 0⟩ := ⟨_, rfl⟩
  rw [← hst0] at hT
  have HT : Hid (finL s.size s.size (skipped st0) = T) := hide (by rw [hT, loopL_fin])
  have HF0 : Hid (Few s.size (skipped st0)) := hide (skipped_few (by rw [hst0]; exact ⟨Nat.le_refl _, fun _ => by show 0 + s.data.toList.length ≤ _; rw [data_len]; omega, Nat.zero_le _⟩))
  have HR0 : Hid ((skipped st0).flt = 0 → (skipped st0).rest.length ≤ s.size) := hide (by
    intro hf
    have := (unhide HF0).rest hf
    omega)
  obtain ⟨b, hb⟩ : ∃ b, b = w.heap.size := ⟨_, rfl⟩
  have hb1 : 1 < b := by omega
  have hbig' : ¬ (4096 : Int) < (s.size : Int) := by omega
  obtain ⟨wA, hwA⟩ : ∃ x, x = w.alloc (.cells #[.int .i64 0, .string s, .int .i64 0, .int .i64 0, .int .i64 0, .slice none 0 0, .slice none 0 0] 53) := ⟨_, rfl⟩
  have hxA : LexX wA b (.slice none 0 0) (.slice none 0 0) s 0 0 [] [] st0 := by
    rw [hst0]
    refine ⟨⟨?_, Nat.zero_le _, hs, by decide⟩, toks_nil _ _, wts_nil _ _ _, fun _ => rfl, fun _ => rfl, fun _ => rfl⟩
    rw [hwA, hb]
    exact Blk.new w _ _
  have gA : GrownS w wA (fun y => b ≤ y) := by rw [hwA]; exact GrownS.of (World.grownBy_alloc w _ none) (by simp)
  have hmA : wA.cell? ⟨1, 0, none⟩ = some (.int .i64 m) := by rw [World.cell?_of_block (gA.block 1 h1 (by omega))]; exact hm
  have HSK := hide (skip_state wA b _ _ s 0 0 [] [] st0 m hxA hmA hb1)
  have HM : Hid (∀ W, GrownS w W (fun y => b ≤ y) → W.cell? ⟨1, 0, none⟩ = some (.int .i64 m)) := hide (fun W hg => by rw [World.cell?_of_block (hg.block 1 h1 (by omega))]; exact hm)
  have HO : Hid (∀ W, GrownS w W (fun y => b ≤ y) → OpsAt W) := hide (fun W hg => ho.of (hg.block 0 (by omega) (by omega)))
  have GA := hide gA
  have HTT1 := hide hT1
  have HBW := hide hb
  clear hT hT1 hst0 hxA gA hmA hm ho
  go_enter Tryd.func12, Tryd.ntmps12
  go_wp2_with fail
  rw [← hb, ← hwA]
  clear hb hwA
  refine (unhide HSK).mono ?_
  rintro en w1 ⟨rfl, r1, h1x, g1⟩
  have HX1 := hide h1x
  have G1 := hide ((unhide GA).trans g1)
  clear h1x g1 HSK
  go_wp2_with fail
  go_loopw [] (fun wr => ∃ v u r d ps ks st F, Hid (LoopAt w b s T wr v u r d ps ks st F)) (fun wr => msr s b wr)
  case atStart => exact ⟨_, _, r1, 0, [], [], skipped st0, s.size, hide ⟨unhide HX1, unhide G1, unhide HF0, unhide HT, unhide HR0, skipped_head⟩⟩
  case round =>
    obtain ⟨v, u, r, d, ps, ks, st, F, HI⟩ := hrel
    have HMO := hide (more_any (unhide HI).x.rdr)
    cases hmb : moreB s r st.flt with
    | true =>
      rw [hmb] at HMO
      have hf : st.flt = 0 := by
        unfold moreB at hmb
        rw [Bool.and_eq_true] at hmb
        simpa using hmb.1
      have hrs : r < s.size := by
        unfold moreB at hmb
        rw [Bool.and_eq_true] at hmb
        simpa using hmb.2
      have hrest := (unhide HI).x.rest hf
      rw [drop_at hrs] at hrest
      obtain ⟨htf, htl⟩ := tokenL_few (unhide HI).few hf hrest.symm ((unhide HI).head hf _ _ hrest.symm)
      have hfu := (unhide HI).fuel hf
      have hfi := (unhide HI).fin
      unfold finL at hfi
      rw [if_pos hf, if_neg (by rw [← hrest]; simp)] at hfi
      have hrl : st.rest.length = s.size - r := by rw [← hrest, List.length_cons, List.length_drop, data_len]; omega
      obtain ⟨F, rfl⟩ : ∃ g, F = g + 1 := ⟨F - 1, by omega⟩
      rw [loopL_fin] at hfi
      have HFI := hide hfi
      have HTF := hide htf
      have HTL := hide htl
      have HMS : Hid (msr s b wr = s.size - r + 1) := hide (by
        have := (unhide HI).x.rdr
        rw [hf] at this
        exact this.msr0)
      have hne : st.rest ≠ [] := by rw [← hrest]; simp
      have hw1 : st.wait.length ≤ 100000 := by have := (unhide HI).few.wait; have := (unhide HI).few.toks; omega
      have hl1 : st.toks.length ≤ 100000 := by have := (unhide HI).few.toks; omega
      clear hmb hrest htf htl hfi
      go_wp2_with fail
      refine (unhide HMO).mono ?_
      rintro en w2 ⟨rfl, k2, hw2⟩
      have h2 : LexX w2 b v u s r d ps ks st := by rw [hw2]; exact (unhide HI).x.below (below_drew _ _) (Nat.le_refl _)
      have g2 : GrownS w w2 (fun y => b ≤ y) := (unhide HI).g.trans (by rw [hw2]; exact grownS_of_below (below_drew _ _))
      have HTO := hide (token_state w2 b v u s r ps ks st m (h2.ok hf) hf hne hw1 hl1 (unhide HM w2 g2) (unhide HO w2 g2) hb1)
      have G2 := hide g2
      clear hw2 h2 g2 HMO hne
      go_wp2_with fail
      refine (unhide HTO).mono ?_
      rintro en w3 ⟨rfl, v3, u3, r3, d3, ps3, ks3, h3, g3⟩
      have g3' := (unhide G2).trans g3
      have HSK := hide (skip_state w3 b v3 u3 s r3 d3 ps3 ks3 _ m h3 (unhide HM w3 g3') hb1)
      have G3 := hide g3'
      clear h3 g3 g3' HTO
      go_wp2_with fail
      refine (unhide HSK).mono ?_
      rintro en w4 ⟨rfl, r4, h4, g4⟩
      have H4 := hide h4
      have G4 := hide ((unhide G3).trans g4)
      clear h4 g4 HSK
      go_wp2
      go_roundw
      case rel =>
        refine ⟨v3, u3, r4, d3, ps3, ks3, skipped (tokenL s.size st), F, hide ⟨unhide H4, unhide G4, skipped_few (unhide HTF), unhide HFI, ?_, skipped_head⟩⟩
        intro hf4
        by_cases hf5 : (tokenL s.size st).flt = 0
        · have a1 := unhide HTL hf5
          have a2 : (skipped (tokenL s.size st)).rest.length ≤ (tokenL s.size st).rest.length := by
            unfold skipped
            rw [if_pos hf5]
            exact skL_len _ _
          omega
        · unfold skipped at hf4
          rw [if_neg hf5] at hf4
          exact absurd hf4 hf5
      case measure =>
        rw [unhide HMS]
        by_cases hf5 : (tokenL s.size st).flt = 0
        · have hr4 := (unhide H4).rdr
          have hf4 : (skipped (tokenL s.size st)).flt = 0 := by unfold skipped; rw [if_pos hf5]; exact hf5
          have e4 := (unhide H4).rest hf4
          rw [hf4] at hr4
          rw [hr4.msr0]
          have a1 := unhide HTL hf5
          have a2 : (skipped (tokenL s.size st)).rest.length ≤ (tokenL s.size st).rest.length := by
            unfold skipped
            rw [if_pos hf5]
            exact skL_len _ _
          have a3 := congrArg List.length e4
          rw [List.length_drop, data_len] at a3
          have := hr4.le
          omega
        · have hf4 : (skipped (tokenL s.size st)).flt ≠ 0 := by unfold skipped; rw [if_neg hf5]; exact hf5
          rw [(unhide H4).rdr.msr1 hf4]
          omega
    | false =>
      rw [hmb] at HMO
      have hTst : T = st := by
        rw [← (unhide HI).fin]
        unfold finL
        by_cases hf : st.flt = 0
        · have hrs : ¬ r < s.size := by
            intro hlt
            unfold moreB at hmb
            rw [hf] at hmb
            simp [hlt] at hmb
          have he := (unhide HI).x.rest hf
          rw [drop_nil (by omega)] at he
          rw [if_pos hf, if_pos he.symm]
        · rw [if_neg hf]
      subst hTst
      have hl1 : T.toks.length ≤ 100000 := by have := (unhide HI).few.toks; omega
      have hw1 : T.wait.length ≤ 100000 := by have := (unhide HI).few.toks; have := (unhide HI).few.wait; omega
      clear hmb
      go_wp2_with fail
      refine (unhide HMO).mono ?_
      rintro en w2 ⟨rfl, k2, hw2⟩
      have h2 : LexX w2 b v u s r d ps ks T := by rw [hw2]; exact (unhide HI).x.below (below_drew _ _) (Nat.le_refl _)
      have g2 : GrownS w w2 (fun y => b ≤ y) := (unhide HI).g.trans (by rw [hw2]; exact grownS_of_below (below_drew _ _))
      obtain ⟨ua, uc, hu, hush⟩ := ptr_shape h2.wts.row rfl
      obtain ⟨n, hn⟩ : ∃ n, n = ks.length := ⟨_, rfl⟩
      have hnw : n = T.wait.length := by rw [hn]; exact h2.wts.len
      rw [← hn] at hu
      subst hu
      have d6 : w2.cell? ⟨b, 6, none⟩ = some (.slice ua n uc) := h2.rdr.blk.cell 6 (by simp)
      have HG2 := hide g2
      clear hw2 g2 HMO HI
      by_cases hn0 : n = 0
      · have hwait : T.wait = [] := List.eq_nil_of_length_eq_zero (by omega)
        have HT1 : Hid (T1 = T) := hide (by rw [unhide HTT1, hwait])
        have hz : ¬ (0 : Int) < (n : Int) := by omega
        have d4 := h2.rdr.c4
        have d3 := h2.rdr.c3
        have HR2 := hide h2.rdr
        have HTK := hide h2.toks
        clear hn0 hwait hush hn hnw h2
        go_wp2_with fail
        go_region_held3 (fun w' => w'.cell? ⟨b, 3, none⟩ = some (.int .i64 T.flt) ∧ w'.cell? ⟨b, 4, none⟩ = some (.int .i64 T.blm)) (go_keep) (first
          | (go_at_call 22
             refine (found_any _ b v _ s r d T.flt T.blm ps T.toks ((unhide HR2).drewN 1) ((unhide HTK).grownS (GrownS.of (grown_drewN _ 1) (by simp) : GrownS _ _ (fun _ => False)) (fun _ _ e => e) (fun _ _ e => e)) hl1).mono ?_
             rintro en w3 ⟨v3, rfl, hrow3, b3⟩
             have h3 := ((unhide HR2).drewN 1).kept (grown_of_below b3)
             have y3 := h3.c3
             have y4 := h3.c4
             have B3 := hide b3
             have HW3 := hide hrow3
             clear b3 hrow3 h3))
        all_goals
          go_wp2
          go_ret3
          rw [unhide HT1]
          refine ⟨_, rfl, ?_, ?_⟩
          · have gg : GrownS w w3 (fun y => b ≤ y) := (unhide HG2).trans ((grownS_of_below (below_drew _ 1)).trans (grownS_of_below (unhide B3)))
            exact ⟨gg.os, gg.tape, gg.output, gg.size, fun k hk => gg.block k hk (by have := unhide HBW; omega)⟩
          · exact ownsRow_mono (unhide HW3) (by have := (unhide HG2).size; have := (below_drew w2 1).size; omega)
      · obtain ⟨k0, hk0⟩ : ∃ k, ks[0]? = some k := ⟨_, List.getElem?_eq_getElem (by omega)⟩
        obtain ⟨x, ws, hws⟩ : ∃ x ws, T.wait = x :: ws := by
          cases hx : T.wait with
          | nil => rw [hx] at hnw; exact absurd hnw hn0
          | cons x ws => exact ⟨x, ws, rfl⟩
        obtain ⟨_, q0, hq0, hkb⟩ := h2.wts.blk 0 k0 x hk0 (by rw [hws]; rfl)
        obtain ⟨t0, ht0⟩ : ∃ t, T.toks[x.tok]? = some t := ⟨_, List.getElem?_eq_getElem (by rw [← h2.toks.len]; exact (List.getElem?_eq_some_iff.1 hq0).1)⟩
        have hqb := (h2.toks.blk x.tok q0 t0 hq0 ht0).2
        obtain ⟨g0, hg0, _, hcell0⟩ := hush 0 k0 hk0
        subst hg0
        have e0 : w2.cell? ⟨k0, 0, none⟩ = some (.pointer (some ⟨q0, 0, none⟩)) := hkb.cell 0 rfl
        have e2 : w2.cell? ⟨q0, 2, none⟩ = some (.int .i64 t0.pos) := hqb.cell 2 rfl
        have hz : (0 : Int) < (n : Int) := by omega
        have HT1 : Hid (T1 = T.fail 12 t0.pos) := hide (by
          rw [unhide HTT1, hws]
          show T.fail 12 (T.posOf x.tok) = _
          unfold LS.posOf
          rw [ht0]
          rfl)
        have HR2 := hide h2.rdr
        have HX2 := hide h2
        clear hn0 hush hn hnw hws hkb hqb ht0 hq0 hk0
        have HFA : Hid (Calls Tryd.prog 21 #[.pointer (some ⟨b, 0, none⟩), .int .i64 12, .int .i64 t0.pos] w2 fun e w' => e = .returned (.tuple #[]) ∧ w2.grownBy w' (some b) ∧ Rdr w' b 53 [v, .slice (some ⟨g0, 0, none⟩) n uc] s r d (T.fail 12 t0.pos).flt (T.fail 12 t0.pos).blm) := hide (by
          by_cases hf : T.flt = 0
          · have hr := unhide HR2
            rw [hf] at hr
            refine (fail_any 12 t0.pos hr).mono ?_
            rintro e w' ⟨rfl, h3, g3⟩
            unfold LS.fail
            rw [if_pos hf]
            exact ⟨rfl, g3, h3⟩
          · refine (fail_not 12 t0.pos (unhide HR2) hf).mono ?_
            rintro e w' ⟨rfl, rfl⟩
            unfold LS.fail
            rw [if_neg hf]
            exact ⟨rfl, World.grownBy.refl _ _, unhide HR2⟩)
        have HTL : Hid ((T.fail 12 t0.pos).toks = T.toks) := hide (by unfold LS.fail; split <;> rfl)
        clear h2
        go_wp2_with fail
        refine (unhide HFA).mono ?_
        rintro en w3 ⟨rfl, g3, h3⟩
        have HTK : Hid (Toks w3 (b + 1) v ps T.toks) := hide ((unhide HX2).toks.grownS (GrownS.of g3 (fun x e => by simpa using e) : GrownS _ _ (fun y => y = b)) (fun y hy e => own_type (unhide HX2).toks.row (unhide HX2).rdr.blk (by decide) (by rw [← e]; exact hy.symm)) (fun p hp e => by have := ((unhide HX2).toks.at hp).1; omega))
        have d4 := h3.c4
        have d3 := h3.c3
        have HR3 := hide h3
        have HG3 := hide ((unhide HG2).trans (grownS_own g3))
        obtain ⟨fl, hfl⟩ : ∃ fl, fl = (T.fail 12 t0.pos).flt := ⟨_, rfl⟩
        obtain ⟨bm, hbm⟩ : ∃ bm, bm = (T.fail 12 t0.pos).blm := ⟨_, rfl⟩
        rw [← hfl, ← hbm] at HR3
        rw [← hfl] at d3
        rw [← hbm] at d4
        have HFL := hide hfl
        have HBM := hide hbm
        clear hfl hbm h3 g3 HFA d6 e0 e2 hcell0
        go_wp2_with fail
        go_region_held3 (fun w' => w'.cell? ⟨b, 3, none⟩ = some (.int .i64 fl) ∧ w'.cell? ⟨b, 4, none⟩ = some (.int .i64 bm)) (go_keep) (first
          | (go_at_call 22
             refine (found_any _ b v _ s r d fl bm ps T.toks ((unhide HR3).drewN 1) ((unhide HTK).grownS (GrownS.of (grown_drewN _ 1) (by simp) : GrownS _ _ (fun _ => False)) (fun _ _ e => e) (fun _ _ e => e)) hl1).mono ?_
             rintro en w4 ⟨v4, rfl, hrow4, b4⟩
             have h4 := ((unhide HR3).drewN 1).kept (grown_of_below b4)
             have y3 := h4.c3
             have y4 := h4.c4
             have B4 := hide b4
             have HW4 := hide hrow4
             clear b4 hrow4 h4))
        all_goals
          go_wp2
          go_ret3
          rw [unhide HT1, unhide HTL, ← unhide HFL, ← unhide HBM]
          refine ⟨_, rfl, ?_, ?_⟩
          · have gg : GrownS w w4 (fun y => b ≤ y) := (unhide HG3).trans ((grownS_of_below (below_drew _ 1)).trans (grownS_of_below (unhide B4)))
            exact ⟨gg.os, gg.tape, gg.output, gg.size, fun k hk => gg.block k hk (by have := unhide HBW; omega)⟩
          · exact ownsRow_mono (unhide HW4) (by have := (unhide HG3).size; have := (below_drew w3 1).size; omega)

end Go.Proofs.YtlmpdfeidjnmnaaDoor

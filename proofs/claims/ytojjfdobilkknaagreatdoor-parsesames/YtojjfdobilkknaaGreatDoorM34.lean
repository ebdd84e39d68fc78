/- 'Lex' is what the pure lexer answers.; What the lexer hands back: a row of tokens, five cells each.; Parse: what it answers of any text of up to 4096 bytes. -/
import Derived.Test.YtojjfdobilkknaaGreatDoorM33
import Derived.Test.YtojjfdobilkknaaGreatDoorM31
import Derived.Test.YtojjfdobilkknaaGreatDoorM14
set_option maxRecDepth 20000
set_option maxHeartbeats 16000000
namespace Go.Proofs.YtojjfdobilkknaaGreatDoor
open Go.RowKit
theorem ownsRow_mono {w : World} {base base' n sz : Nat} {e : TypeId} {v : Value} {xs : List Value} (h : w.ownsRow base' e sz v n xs) (hb : base ≤ base') : w.ownsRow base e sz v n xs := by
 obtain ⟨h0, h1 | ⟨g, cap, cur, h1, h2, h3⟩⟩ := h
 ·exact ⟨h0, .inl h1⟩
 ·exact ⟨h0, .inr ⟨g, cap, cur, h1, lee hb h2, h3⟩⟩
theorem skip_state (w : World) (b : Nat) (v u : Value) (s : ByteArray) (r d : Nat) (ps ks : List Nat) (st : LS) (m : Int) (h : LexX w b v u s r d ps ks st) (hm : w.cell? ⟨1, 0, none⟩ = some (.int .i64 m)) (hb1 : 1 < b) :
 Calls Tryz.prog 27 #[.pointer (some ⟨b, 0, none⟩)] w fun e w' => e = .returned (.tuple #[]) ∧ ∃ r', LexX w' b v u s r' d ps ks (skipped st) ∧ GrownS w w' (fun y => b ≤ y) := by
 by_cases hf : st.flt = 0
 ·have hr := h.rdr
  rw [hf, h.zero hf] at hr
  refine (skip_any w b [v, u] s r d (s.size - r + 1) m hr (ler _) hm hb1).mono ?_
  rintro e w' ⟨rfl, hg, q, hq, hr'⟩
  refine ⟨rfl, q, ?_, grownS_own hg⟩
  have e1 : skipped st = { st with rest := s.data.toList.drop q } := by
   unfold skipped
   rw [if_pos hf, hq, ← h.rest hf, List.length_drop, data_len]
  rw [e1]
  refine h.move (st1 := { st with rest := s.data.toList.drop q }) hg ?_ rfl rfl (fun _ => rfl) h.zero h.deep
  show Rdr w' b 71 [v, u] s q d st.flt st.blm
  rw [hf, h.zero hf]
  exact hr'
 ·refine (skip_bad w b [v, u] s r d st.flt st.blm h.rdr hf).mono ?_
  rintro e w' ⟨rfl, k, rfl⟩
  have e1 : skipped st = st := by unfold skipped; rw [if_neg hf]
  rw [e1]
  exact ⟨rfl, r, h.below (bdr _ _) (ler _), gsb (bdr _ _)⟩
structure LoopAt (w : World) (b : Nat) (s : ByteArray) (T : LS) (wr : World) (v u : Value) (r d : Nat) (ps ks : List Nat) (st : LS) (F : Nat) : Prop where
 x : LexX wr b v u s r d ps ks st
 g : GrownS w wr (fun y => b ≤ y)
 few : FewL s.size st
 fin : finL s.size F st = T
 fuel : st.flt = 0 → st.rest.length ≤ F
 head : st.flt = 0 → ∀ c R, st.rest = c :: R → blkB (c.toNat : Int) = false
theorem skipped_head {st : LS} : (skipped st).flt = 0 → ∀ c R, (skipped st).rest = c :: R → blkB (c.toNat : Int) = false := by
 unfold skipped
 split
 ·intro _ c R h
  exact (skL_head _ _ (Nat.lt_succ_self _) c R h).1
 ·next hf => intro h; exact absurd h hf
theorem lex_any (s : ByteArray) (m : Int) (w : World) (hs : s.size ≤ 100000) (hm : w.cell? ⟨1, 0, none⟩ = some (.int .i64 m)) (ho : OpsAt w) (h1 : 1 < w.heap.size) :
 Calls Tryz.prog 8 #[.string s] w fun e w' => ∃ v, e = .returned (.tuple #[v, .int .i64 (lexL s.data.toList).2.1, .int .i64 (lexL s.data.toList).2.2]) ∧ Below w.heap.size w w' ∧ w'.ownsRow w.heap.size 74 5 v (lexL s.data.toList).1.length (flatT (lexL s.data.toList).1) := by
 by_cases hbig : 4096 < s.size
 ·have hL : lexL s.data.toList = ([], 0, 3) := by unfold lexL; rw [data_len, if_pos hbig]
  rw [hL]
  have hb' : (4096 : Int) < (s.size : Int) := by omega
  clear hL hm ho
  go_enter Tryz.func8, Tryz.ntmps8
  go_wp2
  go_ret3
  exact ⟨_, rfl, Below.refl _ _, World.ownsRow_nil _ _ _ _⟩
 obtain ⟨T, hT⟩ : ∃ T, T = loopL s.size (s.size + 1) ⟨s.data.toList, [], [], 0, 0⟩ := ⟨_, rfl⟩
 obtain ⟨T1, hT1⟩ : ∃ T1 : LS, T1 = (match T.wait with
  | [] => T
  | x :: _ => T.fail 12 (T.posOf x.tok)) := ⟨_, rfl⟩
 have HL : Hid (lexL s.data.toList = (T1.toks, T1.blm, T1.flt)) := hide (by
  unfold lexL
  rw [data_len, if_neg hbig, ← hT, hT1]
  rfl)
 rw [uh HL]
 obtain ⟨st0, hst0⟩ : ∃ x : LS, x = ⟨s.data.toList, [], [], 0, 0⟩ := ⟨_, rfl⟩
 rw [← hst0] at hT
 have HT : Hid (finL s.size s.size (skipped st0) = T) := hide (by rw [hT, loopL_fin])
 have HF0 : Hid (FewL s.size (skipped st0)) := hide (skipped_few (by rw [hst0]; exact ⟨ler _, fun _ => by show 0 + s.data.toList.length ≤ _; rw [data_len]; omega, Nat.zero_le _⟩))
 have HR0 : Hid ((skipped st0).flt = 0 → (skipped st0).rest.length ≤ s.size) := hide (by
  intro hf
  have := (uh HF0).rest hf
  omega)
 obtain ⟨b, hb⟩ : ∃ b, b = w.heap.size := ⟨_, rfl⟩
 have hb1 : 1 < b := by omega
 have hbig' : ¬ (4096 : Int) < (s.size : Int) := by omega
 obtain ⟨wA, hwA⟩ : ∃ x, x = w.alloc (.cells #[.int .i64 0, .string s, .int .i64 0, .int .i64 0, .int .i64 0, .slice none 0 0, .slice none 0 0] 71) := ⟨_, rfl⟩
 have hxA : LexX wA b (.slice none 0 0) (.slice none 0 0) s 0 0 [] [] st0 := by
  rw [hst0]
  refine ⟨⟨?_, Nat.zero_le _, hs, by decide⟩, toks_nil _ _, wts_nil _ _ _, fun _ => rfl, fun _ => rfl, fun _ => rfl⟩
  rw [hwA, hb]
  exact Blk.new w _ _
 have gA : GrownS w wA (fun y => b ≤ y) := by rw [hwA]; exact GrownS.of (World.grownBy_alloc w _ none) (by simp)
 have hmA : wA.cell? ⟨1, 0, none⟩ = some (.int .i64 m) := by rw [World.cell?_of_block (gA.block 1 h1 (by omega))]; exact hm
 have HSK := hide (skip_state wA b _ _ s 0 0 [] [] st0 m hxA hmA hb1)
 have HM : Hid (∀ W, GrownS w W (fun y => b ≤ y) → W.cell? ⟨1, 0, none⟩ = some (.int .i64 m)) := hide (fun W hg => by rw [World.cell?_of_block (hg.block 1 h1 (by omega))]; exact hm)
 have HO : Hid (∀ W, GrownS w W (fun y => b ≤ y) → OpsAt W) := hide (fun W hg => ho.of (hg.block 0 (by omega) (by omega)))
 have GA := hide gA
 have HTT1 := hide hT1
 have HBW := hide hb
 clear hT hT1 hst0 hxA gA hmA hm ho
 go_enter Tryz.func8, Tryz.ntmps8
 go_wp2_with fail
 rw [← hb, ← hwA]
 clear hb hwA
 refine (uh HSK).mono ?_
 rintro en w1 ⟨rfl, r1, h1x, g1⟩
 have HX1 := hide h1x
 have G1 := hide ((uh GA).trans g1)
 clear h1x g1 HSK
 go_wp2_with fail
 go_loopw [] (fun wr => ∃ v u r d ps ks st F, Hid (LoopAt w b s T wr v u r d ps ks st F)) (fun wr => msr s b wr)
 case atStart => exact ⟨_, _, r1, 0, [], [], skipped st0, s.size, hide ⟨uh HX1, uh G1, uh HF0, uh HT, uh HR0, skipped_head⟩⟩
 case round =>
  obtain ⟨v, u, r, d, ps, ks, st, F, HI⟩ := hrel
  have HMO := hide (more_any (uh HI).x.rdr)
  cases hmb : moreB s r st.flt with
  | true =>
    rw [hmb] at HMO
    have hf : st.flt = 0 := by
     unfold moreB at hmb
     rw [Bool.and_eq_true] at hmb
     simpa using hmb.1
    have hrs : r < s.size := by
     unfold moreB at hmb
     rw [Bool.and_eq_true] at hmb
     simpa using hmb.2
    have hrest := (uh HI).x.rest hf
    rw [drop_at hrs] at hrest
    obtain ⟨htf, htl⟩ := tokenL_few (uh HI).few hf hrest.symm ((uh HI).head hf _ _ hrest.symm)
    have hfu := (uh HI).fuel hf
    have hfi := (uh HI).fin
    unfold finL at hfi
    rw [if_pos hf, if_neg (by rw [← hrest]; simp)] at hfi
    have hrl : st.rest.length = s.size - r := by rw [← hrest, List.length_cons, List.length_drop, data_len]; omega
    obtain ⟨F, rfl⟩ : ∃ g, F = g + 1 := ⟨F - 1, by omega⟩
    rw [loopL_fin] at hfi
    have HFI := hide hfi
    have HTF := hide htf
    have HTL := hide htl
    have HMS : Hid (msr s b wr = s.size - r + 1) := hide (by
     have := (uh HI).x.rdr
     rw [hf] at this
     exact this.msr0)
    have hne : st.rest ≠ [] := by rw [← hrest]; simp
    have hw1 : st.wait.length ≤ 100000 := by have := (uh HI).few.wait; have := (uh HI).few.toks; omega
    have hl1 : st.toks.length ≤ 100000 := by have := (uh HI).few.toks; omega
    clear hmb hrest htf htl hfi
    go_wp2_with fail
    refine (uh HMO).mono ?_
    rintro en w2 ⟨rfl, k2, hw2⟩
    have h2 : LexX w2 b v u s r d ps ks st := by rw [hw2]; exact (uh HI).x.below (bdr _ _) (ler _)
    have g2 : GrownS w w2 (fun y => b ≤ y) := (uh HI).g.trans (by rw [hw2]; exact gsb (bdr _ _))
    have HTO := hide (token_state w2 b v u s r ps ks st m (h2.ok hf) hf hne hw1 hl1 (uh HM w2 g2) (uh HO w2 g2) hb1)
    have G2 := hide g2
    clear hw2 h2 g2 HMO hne
    go_wp2_with fail
    refine (uh HTO).mono ?_
    rintro en w3 ⟨rfl, v3, u3, r3, d3, ps3, ks3, h3, g3⟩
    have g3' := (uh G2).trans g3
    have HSK := hide (skip_state w3 b v3 u3 s r3 d3 ps3 ks3 _ m h3 (uh HM w3 g3') hb1)
    have G3 := hide g3'
    clear h3 g3 g3' HTO
    go_wp2_with fail
    refine (uh HSK).mono ?_
    rintro en w4 ⟨rfl, r4, h4, g4⟩
    have H4 := hide h4
    have G4 := hide ((uh G3).trans g4)
    clear h4 g4 HSK
    go_wp2
    go_roundw
    case rel =>
     refine ⟨v3, u3, r4, d3, ps3, ks3, skipped (tokenL s.size st), F, hide ⟨uh H4, uh G4, skipped_few (uh HTF), uh HFI, ?_, skipped_head⟩⟩
     intro hf4
     by_cases hf5 : (tokenL s.size st).flt = 0
     ·have a1 := uh HTL hf5
      have a2 : (skipped (tokenL s.size st)).rest.length ≤ (tokenL s.size st).rest.length := by
       unfold skipped
       rw [if_pos hf5]
       exact skL_len _ _
      omega
     ·unfold skipped at hf4
      rw [if_neg hf5] at hf4
      exact absurd hf4 hf5
    case measure =>
     rw [uh HMS]
     by_cases hf5 : (tokenL s.size st).flt = 0
     ·have hr4 := (uh H4).rdr
      have hf4 : (skipped (tokenL s.size st)).flt = 0 := by unfold skipped; rw [if_pos hf5]; exact hf5
      have e4 := (uh H4).rest hf4
      rw [hf4] at hr4
      rw [hr4.msr0]
      have a1 := uh HTL hf5
      have a2 : (skipped (tokenL s.size st)).rest.length ≤ (tokenL s.size st).rest.length := by
       unfold skipped
       rw [if_pos hf5]
       exact skL_len _ _
      have a3 := congrArg List.length e4
      rw [List.length_drop, data_len] at a3
      have := hr4.le
      omega
     ·have hf4 : (skipped (tokenL s.size st)).flt ≠ 0 := by unfold skipped; rw [if_neg hf5]; exact hf5
      rw [(uh H4).rdr.msr1 hf4]
      omega
  | false =>
    rw [hmb] at HMO
    have hTst : T = st := by
     rw [← (uh HI).fin]
     unfold finL
     by_cases hf : st.flt = 0
     ·have hrs : ¬ r < s.size := by
       intro hlt
       unfold moreB at hmb
       rw [hf] at hmb
       simp [hlt] at hmb
      have he := (uh HI).x.rest hf
      rw [drop_nil (by omega)] at he
      rw [if_pos hf, if_pos he.symm]
     ·rw [if_neg hf]
    subst hTst
    have hl1 : T.toks.length ≤ 100000 := by have := (uh HI).few.toks; omega
    have hw1 : T.wait.length ≤ 100000 := by have := (uh HI).few.toks; have := (uh HI).few.wait; omega
    clear hmb
    go_wp2_with fail
    refine (uh HMO).mono ?_
    rintro en w2 ⟨rfl, k2, hw2⟩
    have h2 : LexX w2 b v u s r d ps ks T := by rw [hw2]; exact (uh HI).x.below (bdr _ _) (ler _)
    have g2 : GrownS w w2 (fun y => b ≤ y) := (uh HI).g.trans (by rw [hw2]; exact gsb (bdr _ _))
    obtain ⟨ua, uc, hu, hush⟩ := ptr_shape h2.wts.row rfl
    obtain ⟨n, hn⟩ : ∃ n, n = ks.length := ⟨_, rfl⟩
    have hnw : n = T.wait.length := by rw [hn]; exact h2.wts.len
    rw [← hn] at hu
    subst hu
    have d6 : w2.cell? ⟨b, 6, none⟩ = some (.slice ua n uc) := h2.rdr.blk.cell 6 (by simp)
    have HG2 := hide g2
    clear hw2 g2 HMO HI
    by_cases hn0 : n = 0
    ·have hwait : T.wait = [] := List.eq_nil_of_length_eq_zero (by omega)
     have HT1 : Hid (T1 = T) := hide (by rw [uh HTT1, hwait])
     have hz : ¬ (0 : Int) < (n : Int) := by omega
     have d4 := h2.rdr.c4
     have d3 := h2.rdr.c3
     have HR2 := hide h2.rdr
     have HTK := hide h2.toks
     clear hn0 hwait hush hn hnw h2
     go_wp2_with fail
     go_region_held3 (fun w' => w'.cell? ⟨b, 3, none⟩ = some (.int .i64 T.flt) ∧ w'.cell? ⟨b, 4, none⟩ = some (.int .i64 T.blm)) (go_keep) (first
      | (go_at_call 31
         refine (found_any _ b v _ s r d T.flt T.blm ps T.toks ((uh HR2).drewN 1) ((uh HTK).grownS (GrownS.of (gdn _ 1) (by simp) : GrownS _ _ (fun _ => False)) (fun _ _ e => e) (fun _ _ e => e)) hl1).mono ?_
         rintro en w3 ⟨v3, rfl, hrow3, b3⟩
         have h3 := ((uh HR2).drewN 1).kept (gob b3)
         have y3 := h3.c3
         have y4 := h3.c4
         have B3 := hide b3
         have HW3 := hide hrow3
         clear b3 hrow3 h3))
     all_goals
      go_wp2
      go_ret3
      rw [uh HT1]
      refine ⟨_, rfl, ?_, ?_⟩
      ·have gg : GrownS w w3 (fun y => b ≤ y) := (uh HG2).trans ((gsb (bdr _ 1)).trans (gsb (uh B3)))
       exact ⟨gg.os, gg.tape, gg.output, gg.size, fun k hk => gg.block k hk (by have := uh HBW; omega)⟩
      ·exact ownsRow_mono (uh HW3) (by have := (uh HG2).size; have := (bdr w2 1).size; omega)
    ·obtain ⟨k0, hk0⟩ : ∃ k, ks[0]? = some k := ⟨_, List.getElem?_eq_getElem (by omega)⟩
     obtain ⟨x, ws, hws⟩ : ∃ x ws, T.wait = x :: ws := by
      cases hx : T.wait with
      | nil => rw [hx] at hnw; exact absurd hnw hn0
      | cons x ws => exact ⟨x, ws, rfl⟩
     obtain ⟨_, q0, hq0, hkb⟩ := h2.wts.blk 0 k0 x hk0 (by rw [hws]; rfl)
     obtain ⟨t0, ht0⟩ : ∃ t, T.toks[x.tok]? = some t := ⟨_, List.getElem?_eq_getElem (by rw [← h2.toks.len]; exact (List.getElem?_eq_some_iff.1 hq0).1)⟩
     have hqb := (h2.toks.blk x.tok q0 t0 hq0 ht0).2
     obtain ⟨g0, hg0, _, hcell0⟩ := hush 0 k0 hk0
     subst hg0
     have e0 : w2.cell? ⟨k0, 0, none⟩ = some (.pointer (some ⟨q0, 0, none⟩)) := hkb.cell 0 rfl
     have e2 : w2.cell? ⟨q0, 2, none⟩ = some (.int .i64 t0.pos) := hqb.cell 2 rfl
     have hz : (0 : Int) < (n : Int) := by omega
     have HT1 : Hid (T1 = T.fail 12 t0.pos) := hide (by
      rw [uh HTT1, hws]
      show T.fail 12 (T.posOf x.tok) = _
      unfold LS.posOf
      rw [ht0]
      rfl)
     have HR2 := hide h2.rdr
     have HX2 := hide h2
     clear hn0 hush hn hnw hws hkb hqb ht0 hq0 hk0
     have HFA : Hid (Calls Tryz.prog 30 #[.pointer (some ⟨b, 0, none⟩), .int .i64 12, .int .i64 t0.pos] w2 fun e w' => e = .returned (.tuple #[]) ∧ w2.grownBy w' (some b) ∧ Rdr w' b 71 [v, .slice (some ⟨g0, 0, none⟩) n uc] s r d (T.fail 12 t0.pos).flt (T.fail 12 t0.pos).blm) := hide (by
      by_cases hf : T.flt = 0
      ·have hr := uh HR2
       rw [hf] at hr
       refine (fail_any 12 t0.pos hr).mono ?_
       rintro e w' ⟨rfl, h3, g3⟩
       unfold LS.fail
       rw [if_pos hf]
       exact ⟨rfl, g3, h3⟩
      ·refine (fail_not 12 t0.pos (uh HR2) hf).mono ?_
       rintro e w' ⟨rfl, rfl⟩
       unfold LS.fail
       rw [if_neg hf]
       exact ⟨rfl, World.grownBy.refl _ _, uh HR2⟩)
     have HTL : Hid ((T.fail 12 t0.pos).toks = T.toks) := hide (by unfold LS.fail; split <;> rfl)
     clear h2
     go_wp2_with fail
     refine (uh HFA).mono ?_
     rintro en w3 ⟨rfl, g3, h3⟩
     have HTK : Hid (Toks w3 (b + 1) v ps T.toks) := hide ((uh HX2).toks.grownS (GrownS.of g3 (fun x e => by simpa using e) : GrownS _ _ (fun y => y = b)) (fun y hy e => own_type (uh HX2).toks.row (uh HX2).rdr.blk (by decide) (by rw [← e]; exact hy.symm)) (fun p hp e => by have := ((uh HX2).toks.at hp).1; omega))
     have d4 := h3.c4
     have d3 := h3.c3
     have HR3 := hide h3
     have HG3 := hide ((uh HG2).trans (grownS_own g3))
     obtain ⟨fl, hfl⟩ : ∃ fl, fl = (T.fail 12 t0.pos).flt := ⟨_, rfl⟩
     obtain ⟨bm, hbm⟩ : ∃ bm, bm = (T.fail 12 t0.pos).blm := ⟨_, rfl⟩
     rw [← hfl, ← hbm] at HR3
     rw [← hfl] at d3
     rw [← hbm] at d4
     have HFL := hide hfl
     have HBM := hide hbm
     clear hfl hbm h3 g3 HFA d6 e0 e2 hcell0
     go_wp2_with fail
     go_region_held3 (fun w' => w'.cell? ⟨b, 3, none⟩ = some (.int .i64 fl) ∧ w'.cell? ⟨b, 4, none⟩ = some (.int .i64 bm)) (go_keep) (first
      | (go_at_call 31
         refine (found_any _ b v _ s r d fl bm ps T.toks ((uh HR3).drewN 1) ((uh HTK).grownS (GrownS.of (gdn _ 1) (by simp) : GrownS _ _ (fun _ => False)) (fun _ _ e => e) (fun _ _ e => e)) hl1).mono ?_
         rintro en w4 ⟨v4, rfl, hrow4, b4⟩
         have h4 := ((uh HR3).drewN 1).kept (gob b4)
         have y3 := h4.c3
         have y4 := h4.c4
         have B4 := hide b4
         have HW4 := hide hrow4
         clear b4 hrow4 h4))
     all_goals
      go_wp2
      go_ret3
      rw [uh HT1, uh HTL, ← uh HFL, ← uh HBM]
      refine ⟨_, rfl, ?_, ?_⟩
      ·have gg : GrownS w w4 (fun y => b ≤ y) := (uh HG3).trans ((gsb (bdr _ 1)).trans (gsb (uh B4)))
       exact ⟨gg.os, gg.tape, gg.output, gg.size, fun k hk => gg.block k hk (by have := uh HBW; omega)⟩
      ·exact ownsRow_mono (uh HW4) (by have := (uh HG3).size; have := (bdr w3 1).size; omega)
theorem flatT_get (ts : List Tok) : ∀ (i : Nat) (t : Tok), ts[i]? = some t → ∀ j x, t.cells[j]? = some x → j < 5 → (flatT ts)[5 * i + j]? = some x := by
 induction ts with
 | nil => intro i t h; simp at h
 | cons a ts ih =>
   intro i t h j x hx hj
   have e : flatT (a :: ts) = a.cells.toList ++ flatT ts := by simp [flatT]
   have hl : a.cells.toList.length = 5 := rfl
   rw [e]
   cases i with
   | zero =>
     simp at h
     subst h
     rw [List.getElem?_append_left (by rw [hl]; omega)]
     simpa using hx
   | succ i =>
     rw [List.getElem?_append_right (by rw [hl]; omega), hl, show 5 * (i + 1) + j - 5 = 5 * i + j by omega]
     exact ih i t (by simpa using h) j x hx hj
structure TRow (w : World) (v : Value) (ts : List Tok) : Prop where
 shape : ∃ ad cap, v = .slice ad ts.length cap ∧ ∀ (i : Nat) (t : Tok), ts[i]? = some t → ∃ g, ad = some ⟨g, 0, none⟩ ∧ g < w.heap.size ∧ ∀ j x, t.cells[j]? = some x → j < 5 → w.cell? ⟨g, 5 * i + j, none⟩ = some x
theorem TRow.below {w w1 : World} {v : Value} {ts : List Tok} (h : TRow w v ts) {n : Nat} (hb : Below n w w1) (hn : w.heap.size ≤ n) : TRow w1 v ts := by
 obtain ⟨ad, cap, h1, h2⟩ := h.shape
 refine ⟨ad, cap, h1, fun i t hi => ?_⟩
 obtain ⟨g, h3, h4, h5⟩ := h2 i t hi
 refine ⟨g, h3, lle h4 hb.size, fun j x hx hj => ?_⟩
 rw [World.cell?_of_block (hb.block g (by omega))]
 exact h5 j x hx hj
structure Env (w : World) : Prop where
 ops : OpsAt w
 max : ∃ m : Int, w.cell? ⟨1, 0, none⟩ = some (.int .i64 m)
 two : 1 < w.heap.size
theorem Env.below {w w1 : World} (h : Env w) {n : Nat} (hb : Below n w w1) (hn : w.heap.size ≤ n) : Env w1 := by
 have h2 := h.two
 obtain ⟨m, hm⟩ := h.max
 exact ⟨h.ops.of (hb.block 0 (by omega)), ⟨m, by rw [World.cell?_of_block (hb.block 1 (by omega))]; exact hm⟩, lle h2 hb.size⟩
end Go.Proofs.YtojjfdobilkknaaGreatDoor
namespace Go.Proofs.YtojjfdobilkknaaGreatDoor
open Go.RowKit Go.Maps Pz
theorem tkrow_of {w : World} {base b : Nat} {v : Value} {ts : List Tok} (h : w.ownsRow base 74 5 v ts.length (flatT ts)) (hb : w.heap.size ≤ b) : TkRow w b v ts := by
 obtain ⟨h1, ⟨rfl, h0⟩ | ⟨g, cap, cur, rfl, _, hg, hn, hm, _, htk⟩⟩ := h
 ·have : ts = [] := List.eq_nil_of_length_eq_zero (by omega)
  subst this
  exact TkRow.nil w b none 0 (by decide)
 ·have hgl := (Array.getElem?_eq_some_iff.1 hg).1
  refine ⟨_, cap, rfl, hn, lee hm (by decide), .inr ⟨g, 0, cur, rfl, by omega, hg, fun i t hi j x hx => ?_⟩⟩
  have hj : j < 5 := by
   have := (Array.getElem?_eq_some_iff.1 hx).1
   simpa [Tok.cells] using this
  have hil := (List.getElem?_eq_some_iff.1 hi).1
  have hp := flatT_get ts i t hi j x hx hj
  rw [← htk, List.getElem?_take, if_pos (by omega)] at hp
  rw [show 0 + i * 5 + j = 5 * i + j by omega]
  simpa using hp
theorem linesN_succ (lst : Pz → Cm × Pz) (n : Nat) (s : Pz) : Pz.linesN lst (n + 1) s = if s.more then ((if (Pz.line lst s).2.we = 0 then [(Pz.line lst s).1] else []) ++ (Pz.linesN lst n (Pz.line lst s).2.gap).1, (Pz.linesN lst n (Pz.line lst s).2.gap).2) else ([], s) := rfl
theorem more_nil {s : Pz} (h : s.toks = []) : s.more = false := by unfold Pz.more; rw [h]; rfl
theorem pparse_any (l : List UInt8) (m : Int) (w : World) (hl : l.length ≤ 4096) (he : PEnv w) (ho : OpsAt w) (hmx : w.cell? ⟨1, 0, none⟩ = some (.int .i64 m)) : Calls Tryz.prog 5 #[.string (BA l)] w fun e w' => ∃ ad n cap, e = .returned (.tuple #[.slice ad n cap, .int .i64 (prsL l).2.1, .int .i64 (prsL l).2.2]) ∧ Hid (Below w.heap.size w w' ∧ RowAt Kc w' (New w w') (.slice ad n cap) (prsL l).1) := by
 have hgn : 7 ≤ w.heap.size := he.we.two
 have HLX : Hid (Calls Tryz.prog 8 #[.string (BA l)] w fun e w' => ∃ v, e = .returned (.tuple #[v, .int .i64 (lexL l).2.1, .int .i64 (lexL l).2.2]) ∧ Below w.heap.size w w' ∧ w'.ownsRow w.heap.size 74 5 v (lexL l).1.length (flatT (lexL l).1)) := hide (lex_any (BA l) m w (lee hl (by decide)) hmx ho (by omega))
 have hfew := lexL_few l hl
 obtain ⟨toks, htoks⟩ : ∃ t, t = (lexL l).1 := ⟨_, rfl⟩
 obtain ⟨bp, hbp⟩ : ∃ t, t = (lexL l).2.1 := ⟨_, rfl⟩
 obtain ⟨be, hbe⟩ : ∃ t, t = (lexL l).2.2 := ⟨_, rfl⟩
 rw [← htoks, ← hbp, ← hbe] at HLX
 rw [← htoks] at hfew
 obtain ⟨la, hla⟩ : ∃ la, la = l.length := ⟨_, rfl⟩
 obtain ⟨R, hR⟩ : ∃ R, R = prsL l := ⟨_, rfl⟩
 obtain ⟨s0, hs0⟩ : ∃ s0 : Pz, s0 = ⟨toks, 0, (la : Int), be, bp, 0, 0⟩ := ⟨_, rfl⟩
 obtain ⟨lst, hlst⟩ : ∃ lst, lst = Pz.list (toks.length + 1) := ⟨_, rfl⟩
 have HR : Hid (R = ((Pz.linesN lst (toks.length + 1) s0.gap).1, (Pz.linesN lst (toks.length + 1) s0.gap).2.lineEnd.wp, (Pz.linesN lst (toks.length + 1) s0.gap).2.lineEnd.we)) := hide (by rw [hR, hs0, hlst, htoks, hbp, hbe, hla]; rfl)
 rw [← hR]
 obtain ⟨A, hA⟩ : ∃ A, A = BA l := ⟨_, rfl⟩
 have hAs : A.size = la := by rw [hA, hla]; rfl
 rw [← hA] at HLX ⊢
 have HE := hide he
 have HFW := hide hfew
 have HS0 := hide hs0
 have HKL : Hid (KR lst) := hide (by rw [hlst]; exact kr_list _)
 have HKR : Hid (KR (Pz.line lst) ∧ ∀ b mp, 7 ≤ b → RdAt 12 b mp (Pz.line lst) (toks.length + 2)) := hide ⟨by rw [hlst]; exact kr_line (kr_list _), fun b mp hb => by rw [hlst]; exact pline_all hb _⟩
 have HGN := hide hgn
 have hn : toks.length ≤ 4096 := hfew.1
 clear htoks hbp hbe hla hR hs0 hlst hA he hfew hl ho hmx hgn
 go_enter Tryz.func5, Tryz.ntmps5
 go_wp2_with fail
 refine (uh HLX).mono ?_
 rintro e w1 ⟨v, rfl, b1, hrow⟩
 obtain ⟨ad, n, cap, hv⟩ : ∃ ad n cap, v = .slice ad n cap := by
  rcases hrow.2 with ⟨e, _⟩ | ⟨g, c, cur, e, _⟩
  ·exact ⟨_, _, _, e⟩
  ·exact ⟨_, _, _, e⟩
 subst hv
 have HB1 := hide b1
 have HRW := hide hrow
 have HBG := hide (pbeginnings_any w1)
 obtain ⟨mb, hmb⟩ : ∃ mb, mb = w1.heap.size := ⟨_, rfl⟩
 have HMB := hide hmb
 rw [← hmb] at HBG
 clear b1 hrow HLX hmb
 go_wp2_with fail
 refine (uh HBG).mono ?_
 rintro e w2 ⟨rfl, hmap, b20⟩
 have b2 : Below w1.heap.size w1 w2 := by rw [← uh HMB]; exact b20
 clear b20
 obtain ⟨b, hb⟩ : ∃ b, b = w2.heap.size := ⟨_, rfl⟩
 obtain ⟨W3, hW3⟩ : ∃ W3, W3 = w2.alloc (.cells #[.slice ad n cap, .map (some mb), .int .i64 0, .int .i64 (la : Int), .int .i64 be, .int .i64 bp, .int .i64 0, .int .i64 0] 47) := ⟨_, rfl⟩
 have b3 : Below w2.heap.size w2 W3 := by rw [hW3]; exact (Below.refl _ w2).alloc (ler _) _
 have hbw : mb < b ∧ w.heap.size ≤ b := by
  have h1 := (uh HB1).size
  have h2 := hmap.lt
  have h3 := b2.size
  have h4 := uh HMB
  omega
 have b12 : Below w.heap.size w w2 := (uh HB1).trans (b2.mono (uh HB1).size)
 have b13 : Below w.heap.size w W3 := b12.trans (b3.mono b12.size)
 have hbW : b < W3.heap.size := by rw [hb, hW3]; simp
 have HP3 : Hid (PzAt W3 b (.map (some mb)) s0) := hide (by
  refine ⟨⟨by rw [uh HS0]; exact lee hn (by decide), fun t ht => ?_, by rw [uh HS0]; exact Nat.zero_le _⟩, .slice ad n cap, ?_, ?_⟩
  ·rw [uh HS0] at ht
   have := (uh HFW).2 t ht
   omega
  ·rw [hW3, hb, uh HS0]
   exact Blk.new _ _ _
  ·have h5 := tkrow_of (b := b) (uh HRW) (by have := b2.size; have := uh HMB; omega)
   rw [uh HS0]
   exact (h5.grownS (S := fun _ => False) (gsb b2) (fun _ e => e.elim)).grownS (S := fun _ => False) (gsb b3) (fun _ e => e.elim))
 have HM3 : Hid (MpAt W3 b (.map (some mb))) := hide (by
  obtain ⟨es, clock, h4, r⟩ := hmap
  exact ⟨mb, 7, Dl6 7, rfl, hbw.1, lel hbW, ⟨es, clock, (b3.block mb (by omega)).trans h4, r⟩, bg_at⟩)
 have HE3 : Hid (PEnv W3 ∧ 7 ≤ b) := hide ⟨(uh HE).below (b13), lee (uh HGN) hbw.2⟩
 have HB13 : Hid (Below w.heap.size w W3 ∧ w.heap.size ≤ b ∧ b < W3.heap.size) := hide ⟨b13, hbw.2, hbW⟩
 have HW3 := hide hW3
 have HBB := hide hb
 have HGP := hide (pgap_any W3 b (.map (some mb)) s0 (uh HP3))
 have L3 : Hid (Lp Kc W3 W3 b (.map (some mb)) s0 (.slice none 0 0) []) := hide ⟨leg_below (Below.refl _ _), uh HP3, (uh HE3).1, grows_nil Kc W3 _, (uh HE3).2, hbW⟩
 clear hb hW3 b3 hbw b12 b13 hbW hmap b2 HBG HRW HB1 HE HFW HP3 HGN
 go_upto_region 4 with fail
 rw [← uh HBB, ← uh HW3]
 clear HBB HW3
 go_wp2_with fail
 refine (uh HGP).mono ?_
 rintro e w4 ⟨rfl, p4, f4⟩
 have L4 : Hid (Lp Kc W3 w4 b (.map (some mb)) s0.gap (.slice none 0 0) []) := hide ⟨(uh L3).leg.trans (leg_fr f4), p4, (uh L3).env.fr f4 (uh HE3).2, (uh L3).row.fr f4 (uh L3).lt, (uh HE3).2, (uh L3).lt⟩
 have hg0 : s0.gap.toks.length < toks.length + 1 := by
  have h1 := gap_le s0
  have h2 : s0.toks = toks := by rw [uh HS0]
  rw [h2] at h1
  omega
 obtain ⟨s1, hs1⟩ : ∃ s1, s1 = s0.gap := ⟨_, rfl⟩
 have HKW : Hid (Kw0 s1) := hide (by rw [hs1]; exact (kp_gap s0).2.2 (.inl (by rw [uh HS0])))
 rw [← hs1] at HR L4 hg0
 obtain ⟨n0, hn0⟩ : ∃ n0, n0 = toks.length + 1 := ⟨_, rfl⟩
 have hn0N : toks.length + 2 = n0 + 1 := by omega
 rw [hn0N] at HKR
 rw [← hn0] at HR hg0
 have hn0F : n0 ≤ 5000 := by omega
 clear p4 f4 HGP L3 hs1 hn0 hn0N hn HS0
 go_wp2_with fail
 go_loopg [9] n0 (fun g x wr => ∃ (s' : Pz) (l : List Cm) (ad : Option Addr) (n cap : Nat), x = .slice ad n cap ∧ s'.toks.length < g ∧ g ≤ n0 ∧ l.length + g ≤ 5001 ∧ Hid (((Pz.linesN lst n0 s1).1, (Pz.linesN lst n0 s1).2) = (l ++ (Pz.linesN lst g s').1, (Pz.linesN lst g s').2) ∧ Lp Kc W3 wr b (.map (some mb)) s' (.slice ad n cap) l ∧ Kw0 s'))
 case atStart => exact ⟨s1, [], none, 0, 0, rfl, hg0, ler _, by simp; omega, hide ⟨by simp, uh L4, uh HKW⟩⟩
 case round =>
  clear L4 HKW
  obtain ⟨s', l, ad, n, cap, rfl, hg, hg2, hlg, HI⟩ := hrel
  obtain ⟨wq, hwq⟩ : ∃ wq, wq = wr := ⟨_, rfl⟩
  subst hwq
  cases gk with
  | zero => omega
  | succ m =>
  have HMO := hide (pmore_any wq b (.map (some mb)) s' (uh HI).2.1.pz)
  cases hmo : s'.more with
  | true =>
    rw [hmo] at HMO
    have hne : s'.toks ≠ [] := fun e => by rw [more_nil e] at hmo; cases hmo
    have hgn := (uh HE3).2
    have HLI := hide ((uh HKR).2 b (.map (some mb)) hgn wq s' (uh HI).2.1.pz (uh HI).2.1.env ((uh HM3).fr (uh HI).2.1.leg.fr) (by omega))
    have hkl := (uh HKR).1 s'
    have hwe0 : s'.we = 0 := (uh HI).2.2.resolve_right hne
    have hml : (Pz.line lst s').2.toks.length < s'.toks.length := line_lt (uh HKL) hwe0 hne
    have HKG : Hid (Kw0 (Pz.line lst s').2.gap) := hide ((hkl.trans (kp_gap _)).2.2 (.inl hwe0))
    have hgp := gap_le (Pz.line lst s').2
    have hm3 : (Pz.line lst s').2.gap.toks.length < m := by omega
    unfold Reads at HLI
    obtain ⟨sl, hsl⟩ : ∃ sl, sl = (Pz.line lst s').2 := ⟨_, rfl⟩
    obtain ⟨cl, hcl⟩ : ∃ cl, cl = (Pz.line lst s').1 := ⟨_, rfl⟩
    have HE : Hid (((Pz.linesN lst n0 s1).1, (Pz.linesN lst n0 s1).2) = (l ++ ((if sl.we = 0 then [cl] else []) ++ (Pz.linesN lst m sl.gap).1), (Pz.linesN lst m sl.gap).2)) := hide (by
     rw [(uh HI).1, linesN_succ lst m s', hmo, hsl, hcl]
     rfl)
    have HSL : Hid (sl = (Pz.line lst s').2 ∧ cl = (Pz.line lst s').1) := hide ⟨hsl, hcl⟩
    rw [← hsl] at hm3 HKG
    clear hmo hne hkl hml hgp hsl hcl hwe0
    go_wp2_with fail
    refine (uh HMO).mono ?_
    rintro e w5 ⟨rfl, hw5⟩
    have hw6 := hw5.symm
    subst hw6
    clear HMO hw5
    go_wp2_with fail
    refine (uh HLI).mono ?_
    rintro e w6 ⟨x, rfl, HG⟩
    have b7 : Below w6.heap.size w6 (w6.alloc (.cells #[.int .i64 x.k, .bool x.no, .slice x.al x.nl x.cl, .slice x.aw x.nw x.cw, .slice x.ar x.nr x.cr, .slice x.ac x.nc x.cc, .string (BA x.nm), .bool x.ev, .slice x.ai x.ni x.ci] 33)) := (Below.refl _ w6).alloc (ler _) _
    obtain ⟨W7, hW7⟩ : ∃ W7, W7 = w6.alloc (.cells #[.int .i64 x.k, .bool x.no, .slice x.al x.nl x.cl, .slice x.aw x.nw x.cw, .slice x.ar x.nr x.cr, .slice x.ac x.nc x.cc, .string (BA x.nm), .bool x.ev, .slice x.ai x.ni x.ci] 33) := ⟨_, rfl⟩
    obtain ⟨g7, hg7⟩ : ∃ g7, g7 = w6.heap.size := ⟨_, rfl⟩
    have k7 : Blk W7 g7 33 #[.int .i64 x.k, .bool x.no, .slice x.al x.nl x.cl, .slice x.aw x.nw x.cw, .slice x.ar x.nr x.cr, .slice x.ac x.nc x.cc, .string (BA x.nm), .bool x.ev, .slice x.ai x.ni x.ci] := by rw [hW7, hg7]; exact Blk.new _ _ _
    rw [← hW7] at b7
    have p7 : PzAt W7 b (.map (some mb)) sl := by rw [(uh HSL).1]; exact (uh HG).pz.below b7
    have f7 : Fr wq W7 b := (uh HG).fr.trans' (fr_below b7)
    have L7 : Hid (Lp Kc W3 W7 b (.map (some mb)) sl (.slice ad n cap) l) := hide ⟨(uh HI).2.1.leg.trans (leg_fr f7), p7, (uh HI).2.1.env.fr f7 hgn, (uh HI).2.1.row.fr f7 (uh HI).2.1.lt, hgn, (uh HI).2.1.lt⟩
    have HX7 : Hid (CmAt W7 (New wq W7) cl x.l ∧ PzAt W7 b (.map (some mb)) sl ∧ Fr wq W7 b) := hide ⟨by rw [(uh HSL).2]; exact (uh HG).cm.kept (fun k hk => b7.block k hk.2) (fun k hk => ⟨hk.1, lle hk.2 b7.size⟩), p7, f7⟩
    obtain ⟨_, u7, hblk7, _⟩ := p7
    have c6 : W7.cell? ⟨b, 6, none⟩ = some (.int .i64 sl.we) := hblk7.cell 6 rfl
    have c7 : W7.cell? ⟨b, 7, none⟩ = some (.int .i64 sl.wp) := hblk7.cell 7 rfl
    have HIS := hide (pis_any sl.we sl.wp W7)
    have HK7 := hide k7
    have HW7 := hide hW7
    have HG7 := hide hg7
    clear HG HLI b7 f7 hW7 hg7 k7 hblk7
    go_upto_region 8 with fail
    rw [← uh HG7, ← uh HW7]
    clear HW7 HG7
    by_cases hwe : sl.we = 0
    ·rw [hwe] at HIS c6
     have HE2 : Hid (((Pz.linesN lst n0 s1).1, (Pz.linesN lst n0 s1).2) = ((l ++ [cl]) ++ (Pz.linesN lst m sl.gap).1, (Pz.linesN lst m sl.gap).2)) := hide (by rw [uh HE, if_pos hwe]; simp)
     clear hwe HE
     go_wp2_with fail
     refine (uh HIS).mono ?_
     rintro e w8 ⟨rfl, b8⟩
     have k8 := (uh HK7).below b8 (uh HK7).lt
     obtain ⟨d0, d1, d2, d3, d4, d5, d6, d7, d8⟩ := cel9 k8
     obtain ⟨q1, q2, q3⟩ := uh HX7
     obtain ⟨ad4, n4, cap4, w9, hr, hL9⟩ := (uh HI).2.1.add (q2.below b8) (q3.trans' (fr_below b8)) (x := cl) (cs := x.l) (q1.kept (fun k hk => b8.block k hk.2) (fun k hk => ⟨hk.1, lle hk.2 b8.size⟩)) 23 (z := .agg #[.int .i64 0, .bool false, .slice none 0 0, .slice none 0 0, .slice none 0 0, .slice none 0 0, .string ⟨#[]⟩, .bool false, .slice none 0 0]) (bytes := 160) (by kernel_rfl) (by kernel_rfl) (by kernel_rfl) (by decide) (by decide) (by omega)
     have HRN := hide hr
     have HL9 := hide hL9
     have HGP := hide (pgap_any w9 b (.map (some mb)) sl hL9.pz)
     clear hr hL9 q1 q2 q3 HX7 b8 k8 HK7 HIS c6 c7 L7 HI HKR HR
     go_wp2_with (at_builtin; refine wpList_app_run rfl _ _ _ rfl _ _ _ rfl rfl (uh HRN) ?_)
     clear d0 d1 d2 d3 d4 d5 d6 d7 d8 HRN
     refine (uh HGP).mono ?_
     rintro e w10 ⟨rfl, p10, f10⟩
     have L10 : Hid (Lp Kc W3 w10 b (.map (some mb)) sl.gap (.slice ad4 n4 cap4) (l ++ [cl])) := hide ⟨(uh HL9).leg.trans (leg_fr f10), p10, (uh HL9).env.fr f10 hgn, (uh HL9).row.fr f10 (uh HL9).lt, hgn, (uh HL9).lt⟩
     clear p10 f10 HGP HL9
     go_wp2_with fail
     go_roundg m
     case measure => omega
     case rel => exact ⟨sl.gap, l ++ [cl], ad4, n4, cap4, rfl, hm3, by omega, by simp; omega, hide ⟨uh HE2, uh L10, uh HKG⟩⟩
    ·have hweb : (sl.we != 0) = true := by simpa using hwe
     rw [hweb] at HIS
     have HE2 : Hid (((Pz.linesN lst n0 s1).1, (Pz.linesN lst n0 s1).2) = (l ++ (Pz.linesN lst m sl.gap).1, (Pz.linesN lst m sl.gap).2)) := hide (by rw [uh HE, if_neg hwe]; simp)
     clear hwe hweb HE HK7 HX7 HI HKR HR
     go_wp2_with fail
     refine (uh HIS).mono ?_
     rintro e w8 ⟨rfl, b8⟩
     have L8 := hide ((uh L7).below b8)
     have HGP := hide (pgap_any w8 b (.map (some mb)) sl (uh L8).pz)
     clear b8 HIS c6 c7 L7
     go_wp2_with fail
     refine (uh HGP).mono ?_
     rintro e w10 ⟨rfl, p10, f10⟩
     have L10 : Hid (Lp Kc W3 w10 b (.map (some mb)) sl.gap (.slice ad n cap) l) := hide ⟨(uh L8).leg.trans (leg_fr f10), p10, (uh L8).env.fr f10 hgn, (uh L8).row.fr f10 (uh L8).lt, hgn, (uh L8).lt⟩
     clear p10 f10 HGP L8
     go_wp2_with fail
     go_roundg m
     case measure => omega
     case rel => exact ⟨sl.gap, l, ad, n, cap, rfl, hm3, by omega, by omega, hide ⟨uh HE2, uh L10, uh HKG⟩⟩
  | false =>
    rw [hmo] at HMO
    have HRR : Hid (R = (l, s'.lineEnd.wp, s'.lineEnd.we)) := hide (by
     have h := (uh HI).1
     rw [linesN_succ lst m s', hmo] at h
     simp at h
     rw [uh HR, h.1, h.2])
    clear hmo HR HKR
    go_wp2_with fail
    refine (uh HMO).mono ?_
    rintro e w5 ⟨rfl, hw5⟩
    have hw6 := hw5.symm
    subst hw6
    have HLE2 := hide (plineEnd_any _ b (.map (some mb)) s' (uh HI).2.1.pz)
    clear HMO hw5
    go_wp2_with fail
    refine (uh HLE2).mono ?_
    rintro e w6 ⟨rfl, p6, f6⟩
    have L6 : Hid (Lp Kc W3 w6 b (.map (some mb)) s'.lineEnd (.slice ad n cap) l) := hide ⟨(uh HI).2.1.leg.trans (leg_fr f6), p6, (uh HI).2.1.env.fr f6 (uh HE3).2, (uh HI).2.1.row.fr f6 (uh HI).2.1.lt, (uh HE3).2, (uh HI).2.1.lt⟩
    obtain ⟨_, u, hblk, _⟩ := p6
    have c6 : w6.cell? ⟨b, 6, none⟩ = some (.int .i64 s'.lineEnd.we) := hblk.cell 6 rfl
    have c7 : w6.cell? ⟨b, 7, none⟩ = some (.int .i64 s'.lineEnd.wp) := hblk.cell 7 rfl
    have HFIN : Hid (∀ k, Below w.heap.size w (w6.drewN k) ∧ RowAt Kc (w6.drewN k) (New w (w6.drewN k)) (.slice ad n cap) l) := hide (fun k => by
     have hB := uh HB13
     have hq : GrownS W3 w6 (fun k => k = b ∨ W3.heap.size ≤ k) := (uh L6).leg
     have hbel : Below w.heap.size w w6 := hB.1.trans (hq.below hB.1.size (fun k hk => by have := hB.1.size; rcases hk with hk | hk <;> omega))
     have h5 : RowAt Kc w6 (New w w6) (.slice ad n cap) l := (uh L6).row.done.kept (fun _ _ => rfl) (fun k hk => ⟨by have := hB.1.size; omega, hk.2⟩)
     exact ⟨hbel.trans ((below_drew' w6 k).mono hbel.size), h5.kept (fun _ _ => rfl) (fun k hk => hk)⟩)
    clear f6 HLE2 HI L6 hblk
    go_wp2_with fail
    go_region
    all_goals go_wp2_with fail
    all_goals go_ret3
    all_goals
     rw [uh HRR]
     exact ⟨ad, n, cap, rfl, hide (uh HFIN 1)⟩
end Go.Proofs.YtojjfdobilkknaaGreatDoor

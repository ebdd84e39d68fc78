/-
  The contract of the iterator that cuts the tokens off a pattern.
-/
import Derived.Test.YtegaonlpbcpobaaCut
import Derived.Test.YtegaonlpbcpobaaRange
namespace Go.Proofs.Ytegaonlpbcpobaa
open Go.RowKit Go.Shelf

attribute [local go_sem] Oper.semAt_some

/-- The tokens from byte k on. -/
def parseN (s : ByteArray) (q : List Bool) : Nat → Nat → List Tok
  | 0, _ => []
  | f + 1, k => if k < s.size then (cutT s q k).1 :: parseN s q f (cutT s q k).2 else []
def parseL (s : ByteArray) (q : List Bool) : List Tok := parseN s q s.size 0
theorem parseN_step {s : ByteArray} {q : List Bool} {F k : Nat} (h : k < s.size) : parseN s q (F + 1) k = (cutT s q k).1 :: parseN s q F (cutT s q k).2 := by rw [parseN, if_pos h]
theorem cutT_adv (s : ByteArray) (q : List Bool) (k : Nat) (h : k < s.size) : k < (cutT s q k).2 ∧ (cutT s q k).2 ≤ s.size := by
  unfold cutT
  split
  · simp only; omega
  split
  · simp only; omega
  split
  · next hc =>
    rw [Bool.and_eq_true] at hc
    have he : classEnd s q (classAt s q k) < s.size := by simpa using hc.2
    have hle : k + 1 ≤ classAt s q k := by unfold classAt; split <;> omega
    have : classAt s q k + 1 ≤ s.size ∨ s.size < classAt s q k + 1 := by omega
    rcases this with h1 | h1
    · have := (findFrom_le (p := fun j => plainF s q j 93) (n := s.size) (s.size - (classAt s q k + 1)) (classAt s q k + 1) h1).1
      unfold classEnd at he ⊢
      simp only
      omega
    · have : classEnd s q (classAt s q k) = s.size := by
        unfold classEnd
        rw [show s.size - (classAt s q k + 1) = 0 by omega]
        rfl
      omega
  · simp only; omega

/-- A token that is handed to a round: its ranges' slice, and what it is. -/
abbrev XT := (Option Addr × Nat × Nat) × Tok
def encX (x : XT) : Array Value := #[.agg #[.int .i64 x.2.kind, .int .u8 x.2.c, .bool x.2.nt, .slice x.1.1 x.1.2.1 x.1.2.2]]

theorem PatAt.spares {n : Nat} {W W' : World} {pb : Nat} {s : ByteArray} {a : Option Addr} {cap : Nat} {q : List Bool} {last : Int} {B m : Nat} {K : Nat → Prop} (h : PatAt n W pb s a cap q last) (hb : Spares B m K W W') (hK : ∀ k, k < n → K k) (hpb : B ≤ pb ∧ pb < B + m) : PatAt n W' pb s a cap q last :=
  ⟨(World.cell?_of_block (w := W) (a := ⟨pb, 0, none⟩) (hb.block pb (.inr hpb))).trans h.p0, (World.cell?_of_block (w := W) (a := ⟨pb, 1, none⟩) (hb.block pb (.inr hpb))).trans h.p1,
    (World.cell?_of_block (w := W) (a := ⟨pb, 2, none⟩) (hb.block pb (.inr hpb))).trans h.p2, h.row.below ⟨hb.os, hb.tape, hb.output, hb.size, fun k hk => hb.block k (.inl (hK k hk))⟩⟩

/-- What 'last' holds, and one: for the loop's measure. -/
def lastOf (W : World) (pb : Nat) : Nat := match W.cell? ⟨pb, 2, none⟩ with | some (.int _ k) => (k + 1).toNat | _ => 0
theorem lastOf_eq {W : World} {pb : Nat} {k : Int} (h : W.cell? ⟨pb, 2, none⟩ = some (.int .i64 k)) : lastOf W pb = (k + 1).toNat := by unfold lastOf; rw [h]

set_option maxRecDepth 100000 in
set_option maxHeartbeats 4000000 in
theorem toks_iter (l bs bq n : Nat) (s : ByteArray) (a : Option Addr) (cap : Nat) (q : List Bool) (J Jx : List XT → World → Prop) (W : World) (hs : s.size ≤ 100000)
    (hbs : W.cell? ⟨bs, 0, none⟩ = some (.string s)) (hbq : W.cell? ⟨bq, 0, none⟩ = some (.slice a q.length cap)) (hrow : QRow n W (.slice a q.length cap) q) (hn : n ≤ W.heap.size)
    (hJ : ∀ s A B, J s A → Turns W.heap.size 1 A B → J s B)
    (hY : ∀ pre x W1, J pre W1 → OwnR W1 (W.heap.size + 1) (.slice x.1.1 x.1.2.1 x.1.2.2) x.2.rs → W.heap.size + 1 ≤ W1.heap.size → pre.length < s.size → YieldAt Fence.wide 1 Try.prog l (encX x) W1 fun e W' =>
      (e = .returned (.bool true) ∧ J (pre ++ [x]) W' ∧ Spares W.heap.size 1 (fun k => k < n ∨ k = bs) W1 W') ∨ (e = .returned (.bool false) ∧ Jx (pre ++ [x]) W')) (h0 : J [] W) :
    CallsIn Fence.wide 2 Try.prog 32 #[.func (.yield l) #[] #[], .pointer (some ⟨bs, 0, none⟩), .pointer (some ⟨bq, 0, none⟩)] W fun e W' => (∃ v, e = .returned v) ∧
      ((∃ xs, xs.map (·.2) = parseL s q ∧ J xs W') ∨ ∃ pre, Jx pre W') := by
  have hbsl := cell_lt hbs
  have HROW := hide hrow
  have HJ := hide hJ
  have HY := hide hY
  have H0 := hide h0
  clear hrow hJ hY h0
  unfold encX at HY
  refine callsIn_of_wp Try.func32 rfl trivial ?_
  simp only [Try.ntmps32, List.size_toArray, List.length_cons, List.length_nil, Nat.reduceAdd, Nat.reduceSub, Array.replicate_succ, Array.replicate_zero, List.push_toArray, List.append_toArray, List.nil_append, List.cons_append]
  gi_wp2
  obtain ⟨W1, hW1⟩ : ∃ X, X = W.alloc (.cells #[.string s, .slice a q.length cap, .int .i64 ((s.size : Int) - 1)] 64) := ⟨_, rfl⟩
  have hB1 : Below W.heap.size W W1 := by rw [hW1]; exact (Below.refl _ W).alloc (Nat.le_refl _) _
  have hsz1 : W1.heap.size = W.heap.size + 1 := by rw [hW1]; simp
  have hP1 : PatAt n W1 W.heap.size s a cap q ((s.size : Int) - 1) := by
    refine ⟨?_, ?_, ?_, (unhide HROW).below (hB1.mono hn)⟩
    · rw [hW1]; go_simp
    · rw [hW1]; go_simp
    · rw [hW1]; go_simp
  have hF1 : FreeAt W1 W.heap.size := by rw [hW1]; exact free_blk (heap_new W _)
  have hbs1 := (hB1.cell (p := ⟨bs, 0, none⟩) hbsl).trans hbs
  rw [← hW1]
  obtain ⟨pb, hpb⟩ : ∃ x, x = W.heap.size := ⟨_, rfl⟩
  rw [← hpb] at hP1 hF1
  rw [← hpb]
  have hpb0 : W.heap.size ≤ pb ∧ pb < W.heap.size + 1 := by omega
  have hpb1 : pb < W1.heap.size := by omega
  have hbp : bs ≠ pb := by omega
  have HP1 := hide hP1
  have HF1 := hide hF1
  have HB1 := hide hB1
  clear hP1 hF1 hB1 hsz1 hpb hW1 hbs hbq
  gi_loopw [14] (fun _ wr => ∃ (last : Int), -1 ≤ last ∧ last < s.size ∧ PatAt n wr pb s a cap q last ∧ FreeAt wr pb ∧ (∀ k : Nat, last < k → plainF s q k 93 = false) ∧ Turns pb 1 W1 wr) (fun _ wr => lastOf wr pb)
  case atStart => exact ⟨(s.size : Int) - 1, by omega, by omega, unhide HP1, unhide HF1, fun k hk => by unfold plainF; simp; omega, Turns.refl _ _ _⟩
  case round =>
    obtain ⟨last, hl1, hl2, hl3, hl4, hl5, hl6⟩ := hrel
    have p2 := hl3.p2
    have z2 := hl4 2
    have HP := hide hl3
    have HF := hide hl4
    have H5 := hide hl5
    have H6 := hide hl6
    have hlo : lastOf wr pb = (last + 1).toNat := lastOf_eq p2
    clear hl3 hl4 hl5 hl6
    by_cases hneg : last < 0
    · have hm1 : last = -1 := by omega
      have hwr := (unhide H6).size
      have HLAST : Hid (IsLast s q last) := hide ⟨by omega, by omega, fun k hk => by omega, unhide H5⟩
      have hbsA : wr.cell? ⟨bs, 0, none⟩ = some (.string s) := ((unhide H6).cell (p := ⟨bs, 0, none⟩) (cell_lt hbs1) (by simp; omega)).trans hbs1
      have HJA : Hid (J [] wr) := hide ((unhide HJ) _ _ _ ((unhide HJ) _ _ _ (unhide H0) (Turns.of_below (unhide HB1))) ((unhide H6).wider (by omega) (by omega)))
      have HPA := HP
      have hpbA : pb < wr.heap.size := by omega
      clear H5 H6 HF z2 HP hlo
      gi_wp2_with fail
      refine ⟨trivial, ?_⟩
      gi_wp2
      gi_loopw [5] (fun i w2 => ∃ (k F : Nat) (xs : List XT), i = .int .i64 (k : Int) ∧ k ≤ s.size ∧ s.size - k ≤ F ∧ xs.length ≤ k ∧ xs.map (·.2) ++ parseN s q F k = parseL s q ∧ PatAt n w2 pb s a cap q last ∧ w2.cell? ⟨bs, 0, none⟩ = some (.string s) ∧ J xs w2 ∧ pb < w2.heap.size) (fun i _ => s.size - (intOf i).toNat)
      case atStart => exact ⟨0, s.size, [], rfl, Nat.zero_le _, by omega, Nat.le_refl _, rfl, unhide HPA, hbsA, unhide HJA, hpbA⟩
      case round =>
        obtain ⟨k, F, xs, rfl, hk1, hk2, hk3, hk4, hk5, hk6, hk7, hk8⟩ := hrel
        have H4 := hide hk4
        have H5 := hide hk5
        have H7 := hide hk7
        clear hk4 hk5 hk7
        by_cases hlt : k < s.size
        · cases F with
          | zero => omega
          | succ F =>
            have hcut := cut_any n pb s a cap q last k _ (unhide H5) hs (by omega) (unhide HLAST) hlt
            have hadv := cutT_adv s q k hlt
            obtain ⟨T, hT⟩ : ∃ x, x = cutT s q k := ⟨_, rfl⟩
            rw [← hT] at hcut hadv
            have HCUT := hide hcut
            have HT := hide hT
            clear hcut hT
            gi_wp2_with fail
            refine ⟨trivial, ?_⟩
            refine (callsIn_wide.2 (unhide HCUT)).mono ?_
            rintro e w3 ⟨v, rfl, ho, b3⟩
            obtain ⟨va, vc, rfl⟩ := ownR_shape ho
            have hs3 := b3.size
            obtain ⟨W4, hW4⟩ : ∃ X, X = w3.alloc (.cells #[.int .i64 T.1.kind, .int .u8 T.1.c, .bool T.1.nt, .slice va T.1.rs.length vc] 47) := ⟨_, rfl⟩
            have b4 : Below w3.heap.size w3 W4 := by rw [hW4]; exact (Below.refl _ w3).alloc (Nat.le_refl _) _
            have b24 := b3.trans (b4.mono hs3)
            have hs4 := b24.size
            have hJ4 := (unhide HJ) _ _ _ (unhide H7) (Turns.of_below b24)
            have hT4 : OwnR W4 (W.heap.size + 1) (.slice va T.1.rs.length vc) T.1.rs := ownR_base (ownR_below ho b4) (by omega)
            obtain ⟨fn, tmps, assign, body, hy, hR⟩ := (unhide HY) xs ((va, T.1.rs.length, vc), T.1) W4 hJ4 hT4 (by omega) (by omega)
            dsimp only at hy
            have HP4 : Hid (PatAt n W4 pb s a cap q last) := hide ((unhide H5).of_below b24 (by omega) hk8)
            have hbs4 := (b24.cell (p := ⟨bs, 0, none⟩) (cell_lt hk6)).trans hk6
            have HPRE : Hid ((xs ++ [((va, T.1.rs.length, vc), T.1)]).map (·.2) ++ parseN s q F T.2 = parseL s q) := by
              have := unhide H4
              rw [parseN_step hlt, ← unhide HT] at this
              exact hide (by rw [← this]; simp)
            rw [hW4] at hy
            have HW4 := hide hW4
            clear HCUT ho b3 b4 b24 hJ4 hT4 hW4 H4 H7 H5
            gi_wp2_with fail
            rw [← unhide HW4]
            refine hR.mono ?_
            rintro e W5 (⟨rfl, hJ5, hk9⟩ | ⟨rfl, hJx5⟩)
            · have hs5 := hk9.size
              have HP5 : Hid (PatAt n W5 pb s a cap q last) := hide (PatAt.spares (unhide HP4) hk9 (fun k h => .inl h) hpb0)
              have hbs5 : W5.cell? ⟨bs, 0, none⟩ = some (.string s) := (World.cell?_of_block (w := W4) (a := ⟨bs, 0, none⟩) (hk9.block bs (.inl (.inr rfl)))).trans hbs4
              have HJ5 := hide hJ5
              clear hJ5 hk9 hbs4 HP4
              gi_wp2
              go_roundw
              case rel => exact ⟨T.2, F, _, by go_num, hadv.2, by omega, by simp; omega, unhide HPRE, unhide HP5, hbs5, unhide HJ5, by omega⟩
              case measure => simp [intOf]; omega
            · gi_wp2
              refine bodyPost_ret (results_none rfl _ _ _) rfl ?_
              exact ⟨⟨_, rfl⟩, .inr ⟨_, hJx5⟩⟩
        · have hke : k = s.size := by omega
          have hfin : xs.map (·.2) = parseL s q := by
            have := unhide H4
            have e : parseN s q F k = [] := by
              cases F with
              | zero => rfl
              | succ F => rw [parseN, if_neg hlt]
            rwa [e, List.append_nil] at this
          have HFIN := hide hfin
          clear hfin
          gi_wp2
          go_end0
          exact ⟨⟨_, rfl⟩, .inl ⟨xs, unhide HFIN, unhide H7⟩⟩
    · obtain ⟨j, hj⟩ : ∃ j : Nat, last = (j : Int) := ⟨last.toNat, by omega⟩
      subst hj
      have hpl := plain_any n pb s a cap q (j : Int) j 93 wr (unhide HP) hs
      have HPL := hide hpl
      clear hpl
      gi_wp2_with fail
      refine ⟨trivial, ?_⟩
      refine (callsIn_wide.2 (unhide HPL)).mono ?_
      rintro e w2 ⟨rfl, hw2⟩
      have hw3 := hw2.symm
      subst hw3
      clear hw2 HPL
      rcases Bool.eq_false_or_eq_true (plainF s q j 93) with hpj | hpj
      · rw [hpj]
        have hwr := (unhide H6).size
        have HLAST : Hid (IsLast s q (j : Int)) := hide ⟨by omega, by omega, fun k hk => (show j = k by omega) ▸ hpj, unhide H5⟩
        have hbsA : wr.cell? ⟨bs, 0, none⟩ = some (.string s) := ((unhide H6).cell (p := ⟨bs, 0, none⟩) (cell_lt hbs1) (by simp; omega)).trans hbs1
        have HJA : Hid (J [] wr) := hide ((unhide HJ) _ _ _ ((unhide HJ) _ _ _ (unhide H0) (Turns.of_below (unhide HB1))) ((unhide H6).wider (by omega) (by omega)))
        have HPA := HP
        have hpbA : pb < wr.heap.size := by omega
        obtain ⟨last, hlast⟩ : ∃ x : Int, x = (j : Int) := ⟨_, rfl⟩
        rw [← hlast] at HLAST HPA
        have HLE := hide hlast
        clear H5 H6 HF z2 HP hlo hlast
        gi_wp2
        gi_loopw [5] (fun i w2 => ∃ (k F : Nat) (xs : List XT), i = .int .i64 (k : Int) ∧ k ≤ s.size ∧ s.size - k ≤ F ∧ xs.length ≤ k ∧ xs.map (·.2) ++ parseN s q F k = parseL s q ∧ PatAt n w2 pb s a cap q last ∧ w2.cell? ⟨bs, 0, none⟩ = some (.string s) ∧ J xs w2 ∧ pb < w2.heap.size) (fun i _ => s.size - (intOf i).toNat)
        case atStart => exact ⟨0, s.size, [], rfl, Nat.zero_le _, by omega, Nat.le_refl _, rfl, unhide HPA, hbsA, unhide HJA, hpbA⟩
        case round =>
          obtain ⟨k, F, xs, rfl, hk1, hk2, hk3, hk4, hk5, hk6, hk7, hk8⟩ := hrel
          have H4 := hide hk4
          have H5 := hide hk5
          have H7 := hide hk7
          clear hk4 hk5 hk7
          by_cases hlt : k < s.size
          · cases F with
            | zero => omega
            | succ F =>
              have hcut := cut_any n pb s a cap q last k _ (unhide H5) hs (by omega) (unhide HLAST) hlt
              have hadv := cutT_adv s q k hlt
              obtain ⟨T, hT⟩ : ∃ x, x = cutT s q k := ⟨_, rfl⟩
              rw [← hT] at hcut hadv
              have HCUT := hide hcut
              have HT := hide hT
              clear hcut hT
              gi_wp2_with fail
              refine ⟨trivial, ?_⟩
              refine (callsIn_wide.2 (unhide HCUT)).mono ?_
              rintro e w3 ⟨v, rfl, ho, b3⟩
              obtain ⟨va, vc, rfl⟩ := ownR_shape ho
              have hs3 := b3.size
              obtain ⟨W4, hW4⟩ : ∃ X, X = w3.alloc (.cells #[.int .i64 T.1.kind, .int .u8 T.1.c, .bool T.1.nt, .slice va T.1.rs.length vc] 47) := ⟨_, rfl⟩
              have b4 : Below w3.heap.size w3 W4 := by rw [hW4]; exact (Below.refl _ w3).alloc (Nat.le_refl _) _
              have b24 := b3.trans (b4.mono hs3)
              have hs4 := b24.size
              have hJ4 := (unhide HJ) _ _ _ (unhide H7) (Turns.of_below b24)
              have hT4 : OwnR W4 (W.heap.size + 1) (.slice va T.1.rs.length vc) T.1.rs := ownR_base (ownR_below ho b4) (by omega)
              obtain ⟨fn, tmps, assign, body, hy, hR⟩ := (unhide HY) xs ((va, T.1.rs.length, vc), T.1) W4 hJ4 hT4 (by omega) (by omega)
              dsimp only at hy
              have HP4 : Hid (PatAt n W4 pb s a cap q last) := hide ((unhide H5).of_below b24 (by omega) hk8)
              have hbs4 := (b24.cell (p := ⟨bs, 0, none⟩) (cell_lt hk6)).trans hk6
              have HPRE : Hid ((xs ++ [((va, T.1.rs.length, vc), T.1)]).map (·.2) ++ parseN s q F T.2 = parseL s q) := by
                have := unhide H4
                rw [parseN_step hlt, ← unhide HT] at this
                exact hide (by rw [← this]; simp)
              rw [hW4] at hy
              have HW4 := hide hW4
              clear HCUT ho b3 b4 b24 hJ4 hT4 hW4 H4 H7 H5
              gi_wp2_with fail
              rw [← unhide HW4]
              refine hR.mono ?_
              rintro e W5 (⟨rfl, hJ5, hk9⟩ | ⟨rfl, hJx5⟩)
              · have hs5 := hk9.size
                have HP5 : Hid (PatAt n W5 pb s a cap q last) := hide (PatAt.spares (unhide HP4) hk9 (fun k h => .inl h) hpb0)
                have hbs5 : W5.cell? ⟨bs, 0, none⟩ = some (.string s) := (World.cell?_of_block (w := W4) (a := ⟨bs, 0, none⟩) (hk9.block bs (.inl (.inr rfl)))).trans hbs4
                have HJ5 := hide hJ5
                clear hJ5 hk9 hbs4 HP4
                gi_wp2
                go_roundw
                case rel => exact ⟨T.2, F, _, by go_num, hadv.2, by omega, by simp; omega, unhide HPRE, unhide HP5, hbs5, unhide HJ5, by omega⟩
                case measure => simp [intOf]; omega
              · gi_wp2
                refine bodyPost_ret (results_none rfl _ _ _) rfl ?_
                exact ⟨⟨_, rfl⟩, .inr ⟨_, hJx5⟩⟩
          · have hke : k = s.size := by omega
            have hfin : xs.map (·.2) = parseL s q := by
              have := unhide H4
              have e : parseN s q F k = [] := by
                cases F with
                | zero => rfl
                | succ F => rw [parseN, if_neg hlt]
              rwa [e, List.append_nil] at this
            have HFIN := hide hfin
            clear hfin
            gi_wp2
            go_end0
            exact ⟨⟨_, rfl⟩, .inl ⟨xs, unhide HFIN, unhide H7⟩⟩
      · rw [hpj]
        gi_wp2
        go_roundw
        case rel =>
          refine ⟨(j : Int) - 1, by omega, by omega, ⟨?_, ?_, ?_, ?_⟩, free_put (unhide HF), ?_, (unhide H6).setCell (by simp) (by simp) _⟩
          · exact (World.cell?_setCell_other _ _ _ _ (by simp)).trans (unhide HP).p0
          · exact (World.cell?_setCell_other _ _ _ _ (by simp)).trans (unhide HP).p1
          · exact World.cell?_setCell_same _ _ _ p2
          · exact (unhide HP).row.below (((Turns.refl pb 1 wr).setCell (p := ⟨pb, 2, none⟩) (by simp) (by simp) _).below (by omega) (by have := (unhide H6).size; omega))
          · intro k hk
            by_cases e : k = j
            · subst e; exact hpj
            · exact (unhide H5) k (by omega)
        case measure =>
          have e := lastOf_eq (World.cell?_setCell_same wr ⟨pb, 2, none⟩ (.int .i64 ((j : Int) - 1)) p2)
          rw [hlo, e]; omega

end Go.Proofs.Ytegaonlpbcpobaa

/-
  The contract of 'ranges'.
-/
import Derived.Test.YtegaonlpbcpobaaPat
namespace Go.Proofs.Ytegaonlpbcpobaa
open Go.RowKit

set_option maxHeartbeats 2000000 in
theorem ranges_any (n pb : Nat) (s : ByteArray) (a : Option Addr) (cap : Nat) (q : List Bool) (last : Int) (at0 e0 : Nat) (w : World) (hp : PatAt n w pb s a cap q last) (hs : s.size ≤ 100000) (hn : n ≤ w.heap.size) (h1 : at0 ≤ e0) (h2 : e0 ≤ s.size) :
    Calls Try.prog 40 #[.pointer (some ⟨pb, 0, none⟩), .int .i64 (at0 : Int), .int .i64 (e0 : Int)] w fun e w' => ∃ v, e = .returned v ∧ OwnR w' w.heap.size v (rangesL s q (e0 - at0) at0 e0) ∧ Below w.heap.size w w' := by
  obtain ⟨i0, hi, hz0, hz1, hz2⟩ := info_parts info48
  have HP := hide hp
  have hpb := hp.lt
  clear hp
  go_enter Try.func40, Try.ntmps40
  go_wp2
  go_loopw [1, 7] (fun k v wr => ∃ (i F : Nat) (l : List (Int × Int)), k = .int .i64 (i : Int) ∧ e0 - i ≤ F ∧ l.length ≤ i ∧ i ≤ e0 ∧ l ++ rangesL s q F i e0 = rangesL s q (e0 - at0) at0 e0 ∧ OwnR wr w.heap.size v l ∧ Below w.heap.size w wr) (fun k _ _ => e0 - (intOf k).toNat)
  case atStart => exact ⟨at0, e0 - at0, [], rfl, Nat.le_refl _, Nat.zero_le _, h1, rfl, World.ownsRow_nil _ _ _ _, Below.refl _ _⟩
  case round =>
    obtain ⟨i, F, l, rfl, hF, hll, hie, hl, hown, hbel⟩ := hrel
    have HL := hide hl
    have HB := hide hbel
    have HO := hide hown
    have hbs := hbel.size
    have HPr : Hid (PatAt n wr pb s a cap q last) := hide ((unhide HP).of_below hbel hn hpb)
    have p0 := (unhide HPr).p0
    clear hl hbel hown
    by_cases hlt : i < e0
    · cases F with
      | zero => omega
      | succ F =>
        have his : i < s.size := by omega
        have HL1 : Hid (l.length + 1 ≤ maxLen) := hide (by unfold maxLen; omega)
        have HL2 : Hid ((l.length + 1) * 2 ≤ 140737488355328) := hide (by omega)
        by_cases h22 : i + 2 < e0
        · rcases Bool.eq_false_or_eq_true (plainF s q (i + 1) 45) with hpl | hpl
          · obtain ⟨jj, hjj⟩ : ∃ jj : Nat, (i : Int) + 2 = (jj : Int) := ⟨i + 2, by omega⟩
            have hjs : jj < s.size := by omega
            have hj2 : jj = i + 2 := by omega
            have HJ2 := hide hj2
            clear hj2
            go_wp2_with fail
            have hpa := plain_any n pb s a cap q last (i + 1) 45 wr (unhide HPr) hs
            rw [hpl] at hpa
            rw [show ((i : Int) + 1) = ((i + 1 : Nat) : Int) by omega]
            refine hpa.mono ?_
            rintro e w1 ⟨rfl, hw1⟩
            have hw2 := hw1.symm
            subst hw2
            clear hpa hw1
            go_wp2_with fail
            have HJJ := hide hjj
            clear hjj
            go_region_law (refine step_append_own rfl (.tmp 25) (.tmp 39) 45 rfl w.heap.size 48 i0 _ 2 2 Try.underlying45 hi hz0 hz1 hz2 rfl (by decide) _ _ _ (by simp [Act.eval]) (ownsRow_below (unhide HO) (((Below.refl _ wr).alloc (Nat.le_refl _) _).drew)) ⟨wr.heap.size, 0, none⟩ 1 1 [.int .u8 (s[i].toNat : Int), .int .u8 (s[jj].toNat : Int)] (by simp [Act.eval]) rfl two_cells two_one (unhide HL1) (unhide HL2) (le_alloc hbs) ?_; intro v' w1 hown' hgrow _)
            all_goals
              have hb' : Below w.heap.size w w1 := ((unhide HB).alloc (unhide HB).size _).drew.grown hgrow (by simpa using Nat.le_succ_of_le hbs) (fun k hk => (ownsRow_lt (unhide HO) hk).1)
              have ho' : OwnR w1 w.heap.size v' (l ++ [(sb s i, sb s (jj))]) := ownR_push (by simp only [sb_eq his, sb_eq hjs]) hown'
              have HL' : Hid ((l ++ [(sb s i, sb s (jj))]) ++ rangesL s q F (i + 3) e0 = rangesL s q (e0 - at0) at0 e0) := by
                have := unhide HL
                rw [rangesL_hit hlt h22 hpl] at this
                exact hide (by rw [← this, unhide HJ2]; simp)
              clear hown' hgrow HO HB HL HPr
              have hj3 : ((jj : Int) + 1) = ((i + 3 : Nat) : Int) := by have := unhide HJ2; omega
              go_wp2
              go_roundw
              case rel => exact ⟨(i + 3), F, _, by have := unhide HJ2; go_num, by omega, by simp; omega, by omega, unhide HL', ho', hb'⟩
              case measure => have := unhide HJ2; simp [intOf]; omega
          · go_wp2_with fail
            have hpa := plain_any n pb s a cap q last (i + 1) 45 wr (unhide HPr) hs
            rw [hpl] at hpa
            rw [show ((i : Int) + 1) = ((i + 1 : Nat) : Int) by omega]
            refine hpa.mono ?_
            rintro e w1 ⟨rfl, hw1⟩
            have hw2 := hw1.symm
            subst hw2
            clear hpa hw1
            go_wp2_with fail
            go_region_law (refine step_append_own rfl (.tmp 25) (.tmp 39) 45 rfl w.heap.size 48 i0 _ 2 2 Try.underlying45 hi hz0 hz1 hz2 rfl (by decide) _ _ _ (by simp [Act.eval]) (ownsRow_below (unhide HO) (((Below.refl _ wr).alloc (Nat.le_refl _) _).drew)) ⟨wr.heap.size, 0, none⟩ 1 1 [.int .u8 (s[i].toNat : Int), .int .u8 (s[i].toNat : Int)] (by simp [Act.eval]) rfl two_cells two_one (unhide HL1) (unhide HL2) (le_alloc hbs) ?_; intro v' w1 hown' hgrow _)
            all_goals
              have hb' : Below w.heap.size w w1 := ((unhide HB).alloc (unhide HB).size _).drew.grown hgrow (by simpa using Nat.le_succ_of_le hbs) (fun k hk => (ownsRow_lt (unhide HO) hk).1)
              have ho' : OwnR w1 w.heap.size v' (l ++ [(sb s i, sb s (i))]) := ownR_push (by simp only [sb_eq his]) hown'
              have HL' : Hid ((l ++ [(sb s i, sb s (i))]) ++ rangesL s q F (i + 1) e0 = rangesL s q (e0 - at0) at0 e0) := by
                have := unhide HL
                rw [rangesL_miss hlt (fun h => by rw [hpl] at h; cases h.2)] at this
                exact hide (by rw [← this]; simp)
              clear hown' hgrow HO HB HL HPr
              go_wp2
              go_roundw
              case rel => exact ⟨(i + 1), F, _, by go_num, by omega, by simp; omega, by omega, unhide HL', ho', hb'⟩
              case measure => simp [intOf]; omega
        · go_wp2_with fail
          go_region_law (refine step_append_own rfl (.tmp 25) (.tmp 39) 45 rfl w.heap.size 48 i0 _ 2 2 Try.underlying45 hi hz0 hz1 hz2 rfl (by decide) _ _ _ (by simp [Act.eval]) (ownsRow_below (unhide HO) (((Below.refl _ wr).alloc (Nat.le_refl _) _).drew)) ⟨wr.heap.size, 0, none⟩ 1 1 [.int .u8 (s[i].toNat : Int), .int .u8 (s[i].toNat : Int)] (by simp [Act.eval]) rfl two_cells two_one (unhide HL1) (unhide HL2) (le_alloc hbs) ?_; intro v' w1 hown' hgrow _)
          all_goals
            have hb' : Below w.heap.size w w1 := ((unhide HB).alloc (unhide HB).size _).drew.grown hgrow (by simpa using Nat.le_succ_of_le hbs) (fun k hk => (ownsRow_lt (unhide HO) hk).1)
            have ho' : OwnR w1 w.heap.size v' (l ++ [(sb s i, sb s (i))]) := ownR_push (by simp only [sb_eq his]) hown'
            have HL' : Hid ((l ++ [(sb s i, sb s (i))]) ++ rangesL s q F (i + 1) e0 = rangesL s q (e0 - at0) at0 e0) := by
              have := unhide HL
              rw [rangesL_miss hlt (fun h => h22 h.1)] at this
              exact hide (by rw [← this]; simp)
            clear hown' hgrow HO HB HL HPr
            go_wp2
            go_roundw
            case rel => exact ⟨(i + 1), F, _, by go_num, by omega, by simp; omega, by omega, unhide HL', ho', hb'⟩
            case measure => simp [intOf]; omega
    · have he : i = e0 := by omega
      subst he
      go_wp2
      go_ret
      refine ⟨_, rfl, ?_, unhide HB⟩
      have hr : rangesL s q F i i = [] := by
        cases F with
        | zero => rfl
        | succ F => unfold rangesL; rw [if_neg (by omega)]
      have := unhide HL
      rw [hr, List.append_nil] at this
      rw [← this]
      exact unhide HO

end Go.Proofs.Ytegaonlpbcpobaa

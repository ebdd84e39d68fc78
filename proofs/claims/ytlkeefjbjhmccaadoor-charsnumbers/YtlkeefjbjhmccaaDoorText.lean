/-
  The contract of the document's 'Text': the number in decimal digits.
-/
import Derived.Test.YtlkeefjbjhmccaaDoorOwn
import Derived.Test.YtlkeefjbjhmccaaDoorQuote
import Derived.Test.YtlkeefjbjhmccaaDoorTextPlain
namespace Go.Proofs.YtlkeefjbjhmccaaDoor
open Go.RowKit

set_option maxHeartbeats 1000000 in
theorem rtext_pos (n : Int) (w : World) (h0 : 0 < n) (h1 : n ≤ 9223372036854775807) :
    Calls Tryd.prog 25 #[.int .i64 n] w fun e w' => e = .returned (.string ⟨(Lib.itoa n).toArray⟩) ∧ Below w.heap.size w w' := by
  obtain ⟨i0, hi, hz0, hz1, hz2⟩ := info_parts info5
  have hn0 : (n == 0) = false := by rw [beq_eq_false_iff_ne]; omega
  have HR := hide (rd_len 19 n.natAbs (by omega))
  go_enter Tryd.func25, Tryd.ntmps25
  go_wp2
  go_loopw [3, 4] (fun v m wr => ∃ (a : Int) (l : List UInt8), m = .int .i64 a ∧ 0 ≤ a ∧ a ≤ 9223372036854775807 ∧ l ++ rd a.natAbs = rd n.natAbs ∧ OwnB wr w.heap.size v l ∧ Below w.heap.size w wr) (fun _ m _ => (intOf m).natAbs)
  case atStart => exact ⟨n, [], rfl, by omega, h1, rfl, ownB_nil _ _, Below.refl _ _⟩
  case round =>
    obtain ⟨a, l, rfl, ha0, ha1, hrd, hown, hbel⟩ := hrel
    have HRD := hide hrd
    have HL : l.length ≤ 19 := by
      have e1 := congrArg List.length hrd
      have e2 := unhide HR
      simp at e1; omega
    clear hrd
    by_cases hz : a = 0
    · subst hz
      have hl : l = rd n.natAbs := by have := unhide HRD; simpa [rd_zero] using this
      have hne : l ≠ [] := by rw [hl, rd_step (by omega)]; simp
      obtain ⟨g, cap, hu, hg0, hg1, hc⟩ := hown.shape hne
      have HL2 := hide hl
      have HC := hide hc
      have HB := hide hbel
      subst hu
      have hpos : 0 < l.length := by cases l with | nil => exact absurd rfl hne | cons _ _ => simp
      clear hl hne hown hc hbel HRD
      obtain ⟨wA, hwA⟩ : ∃ x, x = wr := ⟨_, rfl⟩
      subst hwA
      go_wp2
      go_loopw [6, 7] (fun v m w2 => ∃ (k : Nat), k ≤ l.length ∧ m = .int .i64 ((k : Int) - 1) ∧ OwnB w2 wA.heap.size v (l.drop k).reverse ∧ Below wA.heap.size wA w2) (fun _ m _ => ((intOf m) + 1).toNat)
      case atStart => exact ⟨l.length, Nat.le_refl _, rfl, by rw [List.drop_length]; exact ownB_nil _ _, Below.refl _ _⟩
      case round =>
        obtain ⟨k, hk, rfl, hown2, hbel2⟩ := hrel
        match k, hk, hown2 with
        | 0, hk, hown2 =>
          have hcv := hown2.text
          go_wp2
          go_ret
          exact ⟨ret_str (by rw [rd_itoa_pos h0, ← unhide HL2]), (unhide HB).trans (hbel2.mono (unhide HB).size)⟩
        | k + 1, hk, hown2 =>
          have e : (((k + 1 : Nat) : Int) - 1) = (k : Int) := by omega
          rw [e]
          clear e
          have hcell := (hbel2.cell (p := ⟨g, k, none⟩) hg1).trans ((unhide HC) k (by omega))
          have hlen2 : (l.drop (k + 1)).reverse.length ≤ 19 := by simp; omega
          go_wp2_with (first
            | (at_builtin; refine wpList_append_own _ rfl (.tmp 39) (.tmp 44) 42 rfl wA.heap.size 5 i0 (.int .u8 0) 1 1 Tryd.underlying42 hi hz0 hz1 hz2 rfl (by decide) _ _ _ rfl (hown2.alloc _) ⟨wr.heap.size, 0, none⟩ 1 1 [.int .u8 (l[k].toNat : Int)] rfl rfl one_cell one_is ?d3 ?d4 ?d5 ?_)
            | go_in)
          case d3 => unfold maxLen; omega
          case d4 => omega
          case d5 => have := hbel2.size; simp; omega
          intro v' w1 hown' hgrow _
          have hb' := own_below hown2 hbel2 hbel2.size hgrow
          have ho' : OwnB w1 wA.heap.size v' ((l.drop (k + 1)).reverse ++ [l[k]]) := own_push (zs := [.int .u8 (l[k].toNat : Int)]) (by simp) (by simp [Lib.byteCells]) hown'
          have hr' : (l.drop (k + 1)).reverse ++ [l[k]] = (l.drop k).reverse := by
            rw [List.drop_eq_getElem_cons (l := l) (i := k) (by omega), List.reverse_cons]
          rw [hr'] at ho'
          clear hown' hgrow hown2 hbel2 hr' hcell hlen2
          go_wp2
          go_roundw
          case rel => exact ⟨k, by omega, by go_num, ho', hb'⟩
          case measure => simp [intOf]
    · have hz' : (a == 0) = false := by rw [beq_eq_false_iff_ne]; omega
      have hap : 0 < a := by omega
      go_wp2_with (first
        | (at_builtin; refine wpList_append_own _ rfl (.tmp 21) (.tmp 25) 42 rfl w.heap.size 5 i0 (.int .u8 0) 1 1 Tryd.underlying42 hi hz0 hz1 hz2 rfl (by decide) _ _ _ rfl (hown.alloc _) ⟨wr.heap.size, 0, none⟩ 1 1 [.int .u8 (48 + a % 10)] rfl rfl one_cell one_is ?c3 ?c4 ?c5 ?_)
        | go_in)
      case c3 => unfold maxLen; omega
      case c4 => omega
      case c5 => have := hbel.size; simp; omega
      intro v' w1 hown' hgrow _
      have hb' := own_below hown hbel hbel.size hgrow
      have ho' : OwnB w1 w.heap.size v' (l ++ [UInt8.ofNat (48 + a.natAbs % 10)]) := own_push rfl (by simp [Lib.byteCells]; omega) hown'
      have hr' : (l ++ [UInt8.ofNat (48 + a.natAbs % 10)]) ++ rd (a / 10).natAbs = rd n.natAbs := by
        have e := rd_step (a := a.natAbs) (by omega)
        have e2 : (a / 10).natAbs = a.natAbs / 10 := by omega
        rw [← unhide HRD, e, e2]; simp
      have HR' := hide hr'
      clear hr' hown' hgrow hown hbel
      go_wp2
      go_roundw
      case rel => exact ⟨a / 10, _, by go_num, by omega, by omega, unhide HR', ho', hb'⟩
      case measure => simp [intOf]; omega

set_option maxHeartbeats 1000000 in
theorem rtext_neg (n : Int) (w : World) (h0 : n < 0) (h1 : -9223372036854775808 ≤ n) :
    Calls Tryd.prog 25 #[.int .i64 n] w fun e w' => e = .returned (.string ⟨(Lib.itoa n).toArray⟩) ∧ Below w.heap.size w w' := by
  obtain ⟨i0, hi, hz0, hz1, hz2⟩ := info_parts info5
  have hn0 : (n == 0) = false := by rw [beq_eq_false_iff_ne]; omega
  have HR := hide (rd_len 19 n.natAbs (by omega))
  go_enter Tryd.func25, Tryd.ntmps25
  go_wp2
  go_loopw [3, 4] (fun v m wr => ∃ (a : Int) (l : List UInt8), m = .int .i64 a ∧ -9223372036854775808 ≤ a ∧ a ≤ 0 ∧ l ++ rd a.natAbs = rd n.natAbs ∧ OwnB wr w.heap.size v l ∧ Below w.heap.size w wr) (fun _ m _ => (intOf m).natAbs)
  case atStart => exact ⟨n, [], rfl, by omega, by omega, rfl, ownB_nil _ _, Below.refl _ _⟩
  case round =>
    obtain ⟨a, l, rfl, ha0, ha1, hrd, hown, hbel⟩ := hrel
    have HRD := hide hrd
    have HL : l.length ≤ 19 := by
      have e1 := congrArg List.length hrd
      have e2 := unhide HR
      simp at e1; omega
    clear hrd
    by_cases hz : a = 0
    · subst hz
      have hl : l = rd n.natAbs := by have := unhide HRD; simpa [rd_zero] using this
      have HL2 := hide hl
      clear hl HRD
      go_wp2_with (first
        | (at_builtin; refine wpList_append_own _ rfl (.tmp 29) (.tmp 30) 42 rfl w.heap.size 5 i0 (.int .u8 0) 1 1 Tryd.underlying42 hi hz0 hz1 hz2 rfl (by decide) _ _ _ rfl (hown.alloc _) ⟨wr.heap.size, 0, none⟩ 1 1 [.int .u8 45] rfl rfl one_cell one_is ?e3 ?e4 ?e5 ?_)
        | go_in)
      case e3 => unfold maxLen; omega
      case e4 => omega
      case e5 => have := hbel.size; simp; omega
      intro v' wA hown' hgrow _
      have hb' := own_below hown hbel hbel.size hgrow
      have ho' : OwnB wA w.heap.size v' (l ++ [45]) := own_push (zs := [.int .u8 45]) rfl (by simp [Lib.byteCells]) hown'
      obtain ⟨L, hL⟩ : ∃ L, L = l ++ [45] := ⟨_, rfl⟩
      rw [← hL] at ho'
      have hne : L ≠ [] := by rw [hL]; simp
      have hLl : L.length ≤ 20 := by rw [hL]; simp; omega
      have HL3 := hide hL
      obtain ⟨g, cap, hu, hg0, hg1, hc⟩ := ho'.shape hne
      have HC := hide hc
      have HB := hide hb'
      subst hu
      have hpos : 0 < L.length := by cases L with | nil => exact absurd rfl hne | cons _ _ => simp
      clear hne hown hc hbel hown' hgrow hb' ho' hL
      go_wp2
      go_loopw [6, 7] (fun v m w2 => ∃ (k : Nat), k ≤ L.length ∧ m = .int .i64 ((k : Int) - 1) ∧ OwnB w2 wA.heap.size v (L.drop k).reverse ∧ Below wA.heap.size wA w2) (fun _ m _ => ((intOf m) + 1).toNat)
      case atStart => exact ⟨L.length, Nat.le_refl _, rfl, by rw [List.drop_length]; exact ownB_nil _ _, Below.refl _ _⟩
      case round =>
        obtain ⟨k, hk, rfl, hown2, hbel2⟩ := hrel
        match k, hk, hown2 with
        | 0, hk, hown2 =>
          have hcv := hown2.text
          go_wp2
          go_ret
          exact ⟨ret_str (by rw [rd_itoa_neg h0, ← unhide HL2, ← unhide HL3]), (unhide HB).trans (hbel2.mono (unhide HB).size)⟩
        | k + 1, hk, hown2 =>
          have e : (((k + 1 : Nat) : Int) - 1) = (k : Int) := by omega
          rw [e]
          clear e
          have hcell := (hbel2.cell (p := ⟨g, k, none⟩) hg1).trans ((unhide HC) k (by omega))
          have hlen2 : (L.drop (k + 1)).reverse.length ≤ 20 := by simp; omega
          go_wp2_with (first
            | (at_builtin; refine wpList_append_own _ rfl (.tmp 39) (.tmp 44) 42 rfl wA.heap.size 5 i0 (.int .u8 0) 1 1 Tryd.underlying42 hi hz0 hz1 hz2 rfl (by decide) _ _ _ rfl (hown2.alloc _) ⟨wr.heap.size, 0, none⟩ 1 1 [.int .u8 (L[k].toNat : Int)] rfl rfl one_cell one_is ?d3 ?d4 ?d5 ?_)
            | go_in)
          case d3 => unfold maxLen; omega
          case d4 => omega
          case d5 => have := hbel2.size; simp; omega
          intro v' w1 hown' hgrow _
          have hb' := own_below hown2 hbel2 hbel2.size hgrow
          have ho' : OwnB w1 wA.heap.size v' ((L.drop (k + 1)).reverse ++ [L[k]]) := own_push (zs := [.int .u8 (L[k].toNat : Int)]) (by simp) (by simp [Lib.byteCells]) hown'
          have hr' : (L.drop (k + 1)).reverse ++ [L[k]] = (L.drop k).reverse := by
            rw [List.drop_eq_getElem_cons (l := L) (i := k) (by omega), List.reverse_cons]
          rw [hr'] at ho'
          clear hown' hgrow hown2 hbel2 hr' hcell hlen2
          go_wp2
          go_roundw
          case rel => exact ⟨k, by omega, by go_num, ho', hb'⟩
          case measure => simp [intOf]
    · have hz' : (a == 0) = false := by rw [beq_eq_false_iff_ne]; omega
      have hap : a < 0 := by omega
      obtain ⟨m1, m2, m3⟩ := tmod_neg ha1
      obtain ⟨q1, q2, q3⟩ := tdiv_neg ha1
      have M3 := hide m3
      have Q3 := hide q3
      clear m3 q3
      by_cases hr : a.tmod 10 < 0
      · go_wp2_with (first
          | (at_builtin; refine wpList_append_own _ rfl (.tmp 21) (.tmp 25) 42 rfl w.heap.size 5 i0 (.int .u8 0) 1 1 Tryd.underlying42 hi hz0 hz1 hz2 rfl (by decide) _ _ _ rfl (hown.alloc _) ⟨wr.heap.size, 0, none⟩ 1 1 [.int .u8 (48 + -a.tmod 10)] rfl rfl one_cell one_is ?c3a ?c4a ?c5a ?_)
          | go_in)
        case c3a => unfold maxLen; omega
        case c4a => omega
        case c5a => have := hbel.size; simp; omega
        intro v' w1 hown' hgrow _
        have hb' := own_below hown hbel hbel.size hgrow
        have ho' : OwnB w1 w.heap.size v' (l ++ [UInt8.ofNat (48 + a.natAbs % 10)]) := own_push (zs := [.int .u8 (48 + -a.tmod 10)]) rfl (by have := unhide M3; simp [Lib.byteCells]; omega) hown'
        have hr' : (l ++ [UInt8.ofNat (48 + a.natAbs % 10)]) ++ rd (a.tdiv 10).natAbs = rd n.natAbs := by
          have e := rd_step (a := a.natAbs) (by omega)
          rw [← unhide HRD, e, unhide Q3]; simp
        have HR' := hide hr'
        have hlt : (a.tdiv 10).natAbs < a.natAbs := by have := unhide Q3; omega
        clear hr' hown' hgrow hown hbel
        go_wp2
        go_roundw
        case rel => exact ⟨a.tdiv 10, _, by go_num, by omega, by omega, unhide HR', ho', hb'⟩
        case measure => simpa [intOf] using hlt
      · go_wp2_with (first
          | (at_builtin; refine wpList_append_own _ rfl (.tmp 21) (.tmp 25) 42 rfl w.heap.size 5 i0 (.int .u8 0) 1 1 Tryd.underlying42 hi hz0 hz1 hz2 rfl (by decide) _ _ _ rfl (hown.alloc _) ⟨wr.heap.size, 0, none⟩ 1 1 [.int .u8 (48 + a.tmod 10)] rfl rfl one_cell one_is ?c3b ?c4b ?c5b ?_)
          | go_in)
        case c3b => unfold maxLen; omega
        case c4b => omega
        case c5b => have := hbel.size; simp; omega
        intro v' w1 hown' hgrow _
        have hb' := own_below hown hbel hbel.size hgrow
        have ho' : OwnB w1 w.heap.size v' (l ++ [UInt8.ofNat (48 + a.natAbs % 10)]) := own_push (zs := [.int .u8 (48 + a.tmod 10)]) rfl (by have := unhide M3; simp [Lib.byteCells]; omega) hown'
        have hr' : (l ++ [UInt8.ofNat (48 + a.natAbs % 10)]) ++ rd (a.tdiv 10).natAbs = rd n.natAbs := by
          have e := rd_step (a := a.natAbs) (by omega)
          rw [← unhide HRD, e, unhide Q3]; simp
        have HR' := hide hr'
        have hlt : (a.tdiv 10).natAbs < a.natAbs := by have := unhide Q3; omega
        clear hr' hown' hgrow hown hbel
        go_wp2
        go_roundw
        case rel => exact ⟨a.tdiv 10, _, by go_num, by omega, by omega, unhide HR', ho', hb'⟩
        case measure => simpa [intOf] using hlt

set_option maxHeartbeats 400000 in
theorem rtext_zero (w : World) :
    Calls Tryd.prog 25 #[.int .i64 0] w fun e w' => e = .returned (.string ⟨(Lib.itoa 0).toArray⟩) ∧ w' = w := by
  rw [itoa_zero]
  go_enter Tryd.func25, Tryd.ntmps25
  go_wp2
  go_ret
  exact ⟨rfl, rfl⟩

theorem rtext_any (n : Int) (w : World) (h0 : -9223372036854775808 ≤ n) (h1 : n ≤ 9223372036854775807) :
    Calls Tryd.prog 25 #[.int .i64 n] w fun e w' => e = .returned (.string ⟨(Lib.itoa n).toArray⟩) ∧ Below w.heap.size w w' := by
  rcases Int.lt_trichotomy n 0 with h | h | h
  · exact rtext_neg n w h h0
  · subst h
    exact (rtext_zero w).mono fun e w' ⟨he, hw⟩ => ⟨he, by rw [hw]; exact Below.refl _ _⟩
  · exact rtext_pos n w h h1

end Go.Proofs.YtlkeefjbjhmccaaDoor

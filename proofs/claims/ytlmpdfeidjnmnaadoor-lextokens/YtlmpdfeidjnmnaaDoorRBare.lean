/-
  A word without its quotes: the document's 'bare'.
-/
import Derived.Test.YtlmpdfeidjnmnaaDoorRSmall
namespace Go.Proofs.YtlmpdfeidjnmnaaDoor
open Go.RowKit

/-- What a backslash takes away in double quotes. -/
def spcB (c : UInt8) : Bool := c == 36 || c == 34 || c == 92 || c == 96 || c == 10
set_option maxRecDepth 20000 in
set_option maxHeartbeats 2000000 in
theorem special_any (c : UInt8) (w : World) : Calls Tryd.prog 44 #[.int .u8 (c.toNat : Int)] w fun e w' => e = .returned (.bool (spcB c)) ∧ w' = w := by
  have key : ∀ x : UInt8, c = x → ((c.toNat : Int) = (x.toNat : Int)) := fun x h => by rw [h]
  have nkey : ∀ x : UInt8, c ≠ x → ((c.toNat : Int) == (x.toNat : Int)) = false := fun x h => by
    rw [beq_eq_false_iff_ne]
    intro e
    exact h (UInt8.toNat_inj.1 (by omega))
  by_cases h1 : c = 36
  · subst h1
    go_enter Tryd.func44, Tryd.ntmps44
    go_wp2
    go_ret
    exact ⟨rfl, rfl⟩
  by_cases h2 : c = 34
  · subst h2
    go_enter Tryd.func44, Tryd.ntmps44
    go_wp2
    go_ret
    exact ⟨rfl, rfl⟩
  by_cases h3 : c = 92
  · subst h3
    go_enter Tryd.func44, Tryd.ntmps44
    go_wp2
    go_ret
    exact ⟨rfl, rfl⟩
  by_cases h4 : c = 96
  · subst h4
    go_enter Tryd.func44, Tryd.ntmps44
    go_wp2
    go_ret
    exact ⟨rfl, rfl⟩
  by_cases h5 : c = 10
  · subst h5
    go_enter Tryd.func44, Tryd.ntmps44
    go_wp2
    go_ret
    exact ⟨rfl, rfl⟩
  have HF : Hid (spcB c = false) := hide (by
    unfold spcB
    rw [beq_false_of_ne h1, beq_false_of_ne h2, beq_false_of_ne h3, beq_false_of_ne h4, beq_false_of_ne h5]
    rfl)
  have n1 : ((c.toNat : Int) == 36) = false := nkey 36 h1
  have n2 : ((c.toNat : Int) == 34) = false := nkey 34 h2
  have n3 : ((c.toNat : Int) == 92) = false := nkey 92 h3
  have n4 : ((c.toNat : Int) == 96) = false := nkey 96 h4
  have n5 : ((c.toNat : Int) == 10) = false := nkey 10 h5
  clear key nkey h1 h2 h3 h4 h5
  go_enter Tryd.func44, Tryd.ntmps44
  go_wp2
  go_ret
  rw [unhide HF]
  exact ⟨rfl, rfl⟩

set_option maxRecDepth 20000 in
set_option maxHeartbeats 8000000 in
theorem bare_any (x : ByteArray) (w : World) (hs : x.size ≤ 100000) :
    Calls Tryd.prog 30 #[.string x] w fun e w' => e = .returned (.string (BA (endL x.data.toList))) ∧ Below w.heap.size w w' := by
  obtain ⟨i0, hi, hz0, hz1, hz2⟩ := info_of info_byte
  obtain ⟨R, hR⟩ : ∃ R, R = endL x.data.toList := ⟨_, rfl⟩
  have HR0 : Hid ([] ++ endF x.size false (x.data.toList.drop 0) = R) := hide (by rw [hR]; unfold endL; rw [data_len]; rfl)
  rw [← hR]
  clear hR
  go_enter Tryd.func30, Tryd.ntmps30
  go_wp2_with fail
  go_loopw [3, 4, 5] (fun v c i wr => ∃ (k : Nat) (b : Bool) (l : List UInt8) (f : Nat), i = .int .i64 k ∧ c = .bool b ∧ k ≤ x.size ∧ x.size - k ≤ f ∧ l.length ≤ k ∧ l ++ endF f b (x.data.toList.drop k) = R ∧ OwnB wr w.heap.size v l ∧ Below w.heap.size w wr) (fun _ _ i _ => x.size - (intOf i).toNat)
  case atStart => exact ⟨0, false, [], x.size, rfl, rfl, Nat.zero_le _, by omega, by simp, unhide HR0, ownB_nil _ _, Below.refl _ _⟩
  case round =>
    obtain ⟨k, b, l, f, rfl, rfl, hk, hf, hlk, hr, hown, hbel⟩ := hrel
    have HR := hide hr
    clear hr HR0
    by_cases hlt : k < x.size
    · have hlt' : (k : Int) < (x.size : Int) := by omega
      have hk0 : (0 : Int) ≤ (k : Int) := by omega
      obtain ⟨f, rfl⟩ : ∃ g, f = g + 1 := ⟨f - 1, by omega⟩
      obtain ⟨k1, hk1⟩ : ∃ y, y = k + 1 := ⟨_, rfl⟩
      have hwk : IntKind.i64.wrap ((k : Int) + 1) = (k1 : Int) := by rw [IntKind.wrap_i64]; omega
      have HX : Hid (x.data.toList.drop k = x[k] :: x.data.toList.drop k1) := hide (by rw [hk1]; exact drop_at hlt)
      have hk1s : k < k1 ∧ k1 ≤ x.size ∧ k1 ≤ k + 1 := by omega
      clear hk1
      by_cases c92 : x[k] = 92 ∧ k1 < x.size
      · obtain ⟨c92, hk1l⟩ := c92
        have v92 : (x[k].toNat : Int) = 92 := by rw [c92]; rfl
        have hk1l' : (k1 : Int) < (x.size : Int) := by omega
        have hk10 : (0 : Int) ≤ (k1 : Int) := by omega
        obtain ⟨k2, hk2⟩ : ∃ y, y = k + 2 := ⟨_, rfl⟩
        have hwk2 : IntKind.i64.wrap ((k : Int) + 2) = (k2 : Int) := by rw [IntKind.wrap_i64]; omega
        have hk2s : k2 ≤ x.size ∧ k2 = k1 + 1 := by omega
        obtain ⟨d, hd⟩ : ∃ d, d = x[k1] := ⟨_, rfl⟩
        have HE : Hid (l ++ (unesc d b ++ endF f b (x.data.toList.drop k2)) = R) := hide (by
          rw [← unhide HR, unhide HX, c92, drop_at hk1l, ← hd, hk2s.2, endF_esc])
        have hk2k : k2 ≤ k + 2 ∧ k + 2 ≤ k2 ∧ k2 ≤ x.size := by omega
        clear hk2 hk2s
        by_cases h10 : d = 10
        · have v10 : (x[k1].toNat : Int) = 10 := by rw [← hd, h10]; rfl
          have HE2 : Hid (l ++ endF f b (x.data.toList.drop k2) = R) := hide (by
            have := unhide HE
            rw [h10] at this
            exact this)
          have HSP := hide (special_any x[k1] wr)
          rw [← hd, h10, show spcB 10 = true from rfl] at HSP
          rw [show ((10 : UInt8).toNat : Int) = 10 from rfl] at HSP
          clear h10 hd HE
          cases b with
          | false =>
            go_wp2
            go_roundw
            case rel => exact ⟨k2, _, l, f, rfl, rfl, by omega, by omega, by omega, unhide HE2, hown, hbel⟩
            case measure => simp [intOf]; omega
          | true =>
            go_wp2_with fail
            refine (unhide HSP).mono ?_
            rintro en w1 ⟨rfl, hw1⟩
            rw [show w1 = wr from hw1]
            clear hw1
            go_wp2
            go_roundw
            case rel => exact ⟨k2, _, l, f, rfl, rfl, by omega, by omega, by omega, unhide HE2, hown, hbel⟩
            case measure => simp [intOf]; omega
        · have v10 : ¬ (x[k1].toNat : Int) = 10 := fun e => h10 (by rw [hd]; exact UInt8.toNat_inj.1 (show x[k1].toNat = 10 by omega))
          have HSP := hide (special_any x[k1] wr)
          cases b with
          | false =>
            have HE2 : Hid ((l ++ [x[k1]]) ++ endF f false (x.data.toList.drop k2) = R) := hide (by
              rw [← unhide HE, ← hd]
              have : unesc d false = [d] := by
                unfold unesc
                rw [beq_false_of_ne h10]
                rfl
              rw [this]; simp)
            clear h10 hd HE HSP
            go_wp2_with (first
              | (at_builtin; refine wpList_append_own _ rfl (.tmp 42) (.tmp 44) 79 rfl w.heap.size 5 i0 (.int .u8 0) 1 1 und_bytes hi hz0 hz1 hz2 rfl (by decide) _ _ _ rfl (hown.alloc _) ⟨wr.heap.size, 0, none⟩ 1 1 [.int .u8 ((x[k1]).toNat : Int)] rfl rfl one_cell one_is ?c3 ?c4 ?c5 ?_)
              | go_in)
            case c3 => unfold maxLen; omega
            case c4 => omega
            case c5 => have := hbel.size; simp; omega
            intro v' w2 hownN hgrowN _
            have hb2 := own_below hown hbel hbel.size hgrowN
            have ho2 : OwnB w2 w.heap.size v' (l ++ [x[k1]]) := own_push (zs := [.int .u8 ((x[k1]).toNat : Int)]) (by simp) (by simp [Lib.byteCells]) hownN
            clear hownN hgrowN
            go_wp2
            go_roundw
            case rel => exact ⟨k2, false, l ++ [x[k1]], f, rfl, rfl, by omega, by omega, by rw [List.length_append, List.length_singleton]; omega, unhide HE2, ho2, hb2⟩
            case measure => simp [intOf]; omega
          | true =>
            cases hsp : spcB x[k1] with
            | true =>
              rw [hsp] at HSP
              have HE2 : Hid ((l ++ [x[k1]]) ++ endF f true (x.data.toList.drop k2) = R) := hide (by
                rw [← unhide HE, ← hd]
                have : unesc d true = [d] := by
                  unfold unesc
                  rw [beq_false_of_ne h10]
                  rw [← hd] at hsp
                  unfold spcB at hsp
                  rw [beq_false_of_ne h10, Bool.or_false] at hsp
                  rw [hsp]
                  rfl
                rw [this]; simp)
              clear h10 hd HE hsp
              go_wp2_with fail
              refine (unhide HSP).mono ?_
              rintro en w1 ⟨rfl, hw1⟩
              rw [show w1 = wr from hw1]
              clear hw1 HSP
              go_wp2_with (first
                | (at_builtin; refine wpList_append_own _ rfl (.tmp 42) (.tmp 44) 79 rfl w.heap.size 5 i0 (.int .u8 0) 1 1 und_bytes hi hz0 hz1 hz2 rfl (by decide) _ _ _ rfl (hown.alloc _) ⟨wr.heap.size, 0, none⟩ 1 1 [.int .u8 ((x[k1]).toNat : Int)] rfl rfl one_cell one_is ?c3 ?c4 ?c5 ?_)
                | go_in)
              case c3 => unfold maxLen; omega
              case c4 => omega
              case c5 => have := hbel.size; simp; omega
              intro v' w2 hownN hgrowN _
              have hb2 := own_below hown hbel hbel.size hgrowN
              have ho2 : OwnB w2 w.heap.size v' (l ++ [x[k1]]) := own_push (zs := [.int .u8 ((x[k1]).toNat : Int)]) (by simp) (by simp [Lib.byteCells]) hownN
              clear hownN hgrowN
              go_wp2
              go_roundw
              case rel => exact ⟨k2, true, l ++ [x[k1]], f, rfl, rfl, by omega, by omega, by rw [List.length_append, List.length_singleton]; omega, unhide HE2, ho2, hb2⟩
              case measure => simp [intOf]; omega
            | false =>
              rw [hsp] at HSP
              have HE2 : Hid ((l ++ [(92 : UInt8)] ++ [x[k1]]) ++ endF f true (x.data.toList.drop k2) = R) := hide (by
                rw [← unhide HE, ← hd]
                have : unesc d true = [92, d] := by
                  unfold unesc
                  rw [beq_false_of_ne h10]
                  rw [← hd] at hsp
                  unfold spcB at hsp
                  rw [beq_false_of_ne h10, Bool.or_false] at hsp
                  rw [hsp]
                  rfl
                rw [this]; simp)
              clear h10 hd HE hsp c92
              go_wp2_with fail
              refine (unhide HSP).mono ?_
              rintro en w1 ⟨rfl, hw1⟩
              rw [show w1 = wr from hw1]
              clear hw1 HSP
              go_wp2_with (first
                | (at_builtin; refine wpList_append_own _ rfl (.tmp 36) (.tmp 38) 79 rfl w.heap.size 5 i0 (.int .u8 0) 1 1 und_bytes hi hz0 hz1 hz2 rfl (by decide) _ _ _ rfl (hown.alloc _) ⟨wr.heap.size, 0, none⟩ 1 1 [.int .u8 (((92 : UInt8)).toNat : Int)] rfl rfl one_cell one_is ?c3 ?c4 ?c5 ?_)
                | go_in)
              case c3 => unfold maxLen; omega
              case c4 => omega
              case c5 => have := hbel.size; simp; omega
              intro v' w2 hownN hgrowN _
              have hb2 := own_below hown hbel hbel.size hgrowN
              have ho2 : OwnB w2 w.heap.size v' (l ++ [(92 : UInt8)]) := own_push (zs := [.int .u8 (((92 : UInt8)).toNat : Int)]) (by simp) (by simp [Lib.byteCells]) hownN
              clear hownN hgrowN
              have hll : (l ++ [(92 : UInt8)]).length ≤ k + 1 := by rw [List.length_append, List.length_singleton]; omega
              go_wp2_with (first
                | (at_builtin; refine wpList_append_own _ rfl (.tmp 42) (.tmp 44) 79 rfl w.heap.size 5 i0 (.int .u8 0) 1 1 und_bytes hi hz0 hz1 hz2 rfl (by decide) _ _ _ rfl (ho2.alloc _) ⟨w2.heap.size, 0, none⟩ 1 1 [.int .u8 ((x[k1]).toNat : Int)] rfl rfl one_cell one_is ?c3 ?c4 ?c5 ?_)
                | go_in)
              case c3 => unfold maxLen; omega
              case c4 => omega
              case c5 => have := hb2.size; simp; omega
              intro v3 w3 hownN hgrowN _
              have hb3 := own_below ho2 hb2 hb2.size hgrowN
              have ho3 : OwnB w3 w.heap.size v3 (l ++ [(92 : UInt8)] ++ [x[k1]]) := own_push (zs := [.int .u8 ((x[k1]).toNat : Int)]) (by simp) (by simp [Lib.byteCells]) hownN
              clear hownN hgrowN
              go_wp2
              go_roundw
              case rel => exact ⟨k2, true, l ++ [(92 : UInt8)] ++ [x[k1]], f, rfl, rfl, by omega, by omega, by rw [List.length_append, List.length_append, List.length_singleton, List.length_singleton]; omega, unhide HE2, ho3, hb3⟩
              case measure => simp [intOf]; omega
      · by_cases c34 : x[k] = 34
        · have v34 : (x[k].toNat : Int) = 34 := by rw [c34]; rfl
          have HE2 : Hid (l ++ endF f (!b) (x.data.toList.drop k1) = R) := hide (by
            rw [← unhide HR, unhide HX, c34, endF_two])
          clear c34 c92
          go_wp2
          go_roundw
          case rel => exact ⟨k1, !b, l, f, rfl, rfl, by omega, by omega, by omega, unhide HE2, hown, hbel⟩
          case measure => simp [intOf]; omega
        · have v34 : ((x[k].toNat : Int) == 34) = false := beq_eq_false_iff_ne.2 (fun e => c34 (UInt8.toNat_inj.1 (show x[k].toNat = 34 by omega)))
          obtain ⟨D, hD⟩ : ∃ D, D = (x.data.toList.drop k1).dropWhile (fun y => y != 39) := ⟨_, rfl⟩
          have HD := hide hD
          have HEL : Hid (¬ (x[k] = 39 ∧ b = false ∧ D ≠ []) → (l ++ [x[k]]) ++ endF f b (x.data.toList.drop k1) = R) := hide (by
            intro h39
            rw [← unhide HR, unhide HX, endF_else f b x[k] (x.data.toList.drop k1) ?_ c34 ?_]
            · simp
            · intro h
              exact drop_nil (by rcases Nat.lt_or_ge k1 x.size with h' | h'; exact absurd ⟨h, h'⟩ c92; exact h')
            · intro h
              cases b with
              | true => exact .inl rfl
              | false =>
                right
                intro h0
                refine h39 ⟨h, rfl, ?_⟩
                rw [hD]
                rcases index_dw (x.data.toList.drop k1) 39 with ⟨h1, _⟩ | ⟨j, h1, _, h3⟩
                · rw [h1] at h0; exact absurd h0 (by decide)
                · rw [h3]; simp)
          have HTW : Hid (x[k] = 39 ∧ b = false ∧ D ≠ [] → (l ++ (x.data.toList.drop k1).takeWhile (fun y => y != 39)) ++ endF f b (D.drop 1) = R) := hide (by
            rintro ⟨h1, rfl, h3⟩
            rw [← unhide HR, unhide HX, h1, endF_one, hD]
            · simp
            · rcases index_dw (x.data.toList.drop k1) 39 with ⟨_, h2⟩ | ⟨j, h4, _, _⟩
              · rw [hD, h2] at h3; exact absurd rfl h3
              · rw [h4]; omega)
          have hnc : (x[k].toNat : Int) = 92 → ¬ (k1 : Int) < (x.size : Int) := fun e h => c92 ⟨UInt8.toNat_inj.1 (show x[k].toNat = 92 by omega), by omega⟩
          have HNC := hide hnc
          clear hnc c92 c34 hD
          obtain ⟨wA, hwA⟩ : ∃ y, y = wr := ⟨_, rfl⟩
          subst hwA
          have HLOOP : Hid (∀ q : Nat, k1 ≤ q → q ≤ x.size → x.data.toList.drop q = D → (q < x.size ↔ D ≠ []) ∧ (x.data.toList.drop k1).takeWhile (fun y => y != 39) = (x.data.toList.drop k1).take (q - k1)) := hide (by
            intro q h1 h2 h3
            constructor
            · constructor
              · intro h
                rw [← h3, drop_at h]
                simp
              · intro h
                rcases Nat.lt_or_ge q x.size with h' | h'
                · exact h'
                · rw [drop_nil h'] at h3; exact absurd h3.symm h
            · rw [take_drop_while, ← unhide HD, ← h3, List.length_drop, List.length_drop, data_len]
              congr 1
              omega)
          by_cases d92 : (x[k].toNat : Int) = 92
          · have hk1n := unhide HNC d92
            have hk1d : decide (k1 < x.size) = false := decide_eq_false (by omega)
            clear HNC v34
            have HE3 : Hid ((l ++ [(92 : UInt8)]) ++ endF f b (x.data.toList.drop k1) = R) := hide (by
              have e := unhide HEL (fun h => by rw [h.1] at d92; exact absurd d92 (by decide))
              rw [show x[k] = 92 from UInt8.toNat_inj.1 (show x[k].toNat = 92 by omega)] at e
              exact e)
            clear HTW HEL HLOOP HD
            go_wp2_with fail
            go_loopw [8] (fun y wr => y = .int .i64 (k1 : Int) ∧ wr = wA) (fun _ _ => 0)
            case atStart => exact ⟨rfl, rfl⟩
            case round =>
              obtain ⟨rfl, rfl⟩ := hrel
              cases b with
              | false =>
                go_wp2_with (first
                  | (at_builtin; refine wpList_append_own _ rfl (.tmp 95) (.tmp 97) 79 rfl w.heap.size 5 i0 (.int .u8 0) 1 1 und_bytes hi hz0 hz1 hz2 rfl (by decide) _ _ _ rfl (hown.alloc _) ⟨wr.heap.size, 0, none⟩ 1 1 [.int .u8 (((92 : UInt8)).toNat : Int)] rfl rfl one_cell one_is ?c3 ?c4 ?c5 ?_)
                  | go_in)
                case c3 => unfold maxLen; omega
                case c4 => omega
                case c5 => have := hbel.size; simp; omega
                intro v' w2 hownN hgrowN _
                have hb2 := own_below hown hbel hbel.size hgrowN
                have ho2 : OwnB w2 w.heap.size v' (l ++ [(92 : UInt8)]) := own_push (zs := [.int .u8 (((92 : UInt8)).toNat : Int)]) (by simp) (by simp [Lib.byteCells]) hownN
                clear hownN hgrowN
                go_wp2
                go_roundw
                case rel => exact ⟨k1, _, l ++ [(92 : UInt8)], f, rfl, rfl, by omega, by omega, by rw [List.length_append, List.length_singleton]; omega, unhide HE3, ho2, hb2⟩
                case measure => simp [intOf]; omega
              | true =>
                go_wp2_with (first
                  | (at_builtin; refine wpList_append_own _ rfl (.tmp 95) (.tmp 97) 79 rfl w.heap.size 5 i0 (.int .u8 0) 1 1 und_bytes hi hz0 hz1 hz2 rfl (by decide) _ _ _ rfl (hown.alloc _) ⟨wr.heap.size, 0, none⟩ 1 1 [.int .u8 (((92 : UInt8)).toNat : Int)] rfl rfl one_cell one_is ?c3 ?c4 ?c5 ?_)
                  | go_in)
                case c3 => unfold maxLen; omega
                case c4 => omega
                case c5 => have := hbel.size; simp; omega
                intro v' w2 hownN hgrowN _
                have hb2 := own_below hown hbel hbel.size hgrowN
                have ho2 : OwnB w2 w.heap.size v' (l ++ [(92 : UInt8)]) := own_push (zs := [.int .u8 (((92 : UInt8)).toNat : Int)]) (by simp) (by simp [Lib.byteCells]) hownN
                clear hownN hgrowN
                go_wp2
                go_roundw
                case rel => exact ⟨k1, _, l ++ [(92 : UInt8)], f, rfl, rfl, by omega, by omega, by rw [List.length_append, List.length_singleton]; omega, unhide HE3, ho2, hb2⟩
                case measure => simp [intOf]; omega
          · have b92 : ((x[k].toNat : Int) == 92) = false := beq_eq_false_iff_ne.2 d92
            clear HNC d92
            go_wp2_with fail
            go_loopw [8] (fun y wr => ∃ q : Nat, y = .int .i64 (q : Int) ∧ k1 ≤ q ∧ q ≤ x.size ∧ wr = wA ∧ Hid ((x.data.toList.drop q).dropWhile (fun y => y != 39) = D)) (fun y _ => x.size - (intOf y).toNat)
            case atStart => exact ⟨k1, rfl, Nat.le_refl _, hk1s.2.1, rfl, hide (unhide HD).symm⟩
            case round =>
              obtain ⟨q, rfl, hq1, hq2, rfl, HQ⟩ := hrel
              have hgo : q < x.size ∧ (∀ h : q < x.size, x[q] ≠ 39) ∨ x.data.toList.drop q = D := by
                rcases Nat.lt_or_ge q x.size with h | h
                · by_cases h39 : x[q] = 39
                  · right
                    rw [← unhide HQ, drop_at h, List.dropWhile_cons, if_neg (by rw [h39]; decide)]
                  · exact .inl ⟨h, fun _ => h39⟩
                · right
                  rw [← unhide HQ, drop_nil h]
                  rfl
              by_cases hql : q < x.size ∧ (∀ h : q < x.size, x[q] ≠ 39)
              · obtain ⟨hqs, h39⟩ := hql
                have h39 := h39 hqs
                have hqs' : (q : Int) < (x.size : Int) := by omega
                have hq0 : (0 : Int) ≤ (q : Int) := by omega
                have v39 : ¬ (x[q].toNat : Int) = 39 := fun e => h39 (UInt8.toNat_inj.1 (show x[q].toNat = 39 by omega))
                have hwq : IntKind.i64.wrap ((q : Int) + 1) = ((q + 1 : Nat) : Int) := by rw [IntKind.wrap_i64]; omega
                have HQ2 : Hid ((x.data.toList.drop (q + 1)).dropWhile (fun y => y != 39) = D) := hide (by
                  rw [← unhide HQ, drop_at hqs, List.dropWhile_cons, if_pos (by simpa using h39)])
                clear h39 hgo
                go_wp2
                go_roundw
                case rel => exact ⟨q + 1, by go_num, by omega, by omega, by trivial, HQ2⟩
                case measure => simp [intOf]; omega
              · have hqD : x.data.toList.drop q = D := hgo.resolve_left hql
                obtain ⟨hqi, hqt⟩ := unhide HLOOP q hq1 hq2 hqD
                have hcond : (q : Int) < (x.size : Int) → ∀ h : q < x.size, (x[q].toNat : Int) = 39 := by
                  intro _ h
                  by_cases h39 : x[q] = 39
                  · rw [h39]; rfl
                  · exact absurd ⟨h, fun _ => h39⟩ hql
                clear hgo hql
                by_cases hall : x[k] = 39 ∧ b = false ∧ D ≠ []
                · obtain ⟨h39, rfl, hDn⟩ := hall
                  have hqs : q < x.size := hqi.2 hDn
                  have hqs' : (q : Int) < (x.size : Int) := by omega
                  have hq0 : (0 : Int) ≤ (q : Int) := by omega
                  have vq : (x[q].toNat : Int) = 39 := hcond hqs' hqs
                  have vk : (x[k].toNat : Int) = 39 := by rw [h39]; rfl
                  have HT := hide (unhide HTW ⟨h39, rfl, hDn⟩)
                  rw [hqt] at HT
                  obtain ⟨q1, hq1e⟩ : ∃ y, y = q + 1 := ⟨_, rfl⟩
                  have hwq : IntKind.i64.wrap ((q : Int) + 1) = (q1 : Int) := by rw [IntKind.wrap_i64]; omega
                  have HD1 : Hid (D.drop 1 = x.data.toList.drop q1) := hide (by rw [hq1e, ← hqD, List.drop_drop])
                  have hq1b : q1 ≤ x.size ∧ q < q1 ∧ q1 ≤ q + 1 := by omega
                  clear hcond hqi hqt hqD hq1e h39 hDn HTW HEL HLOOP HQ
                  obtain ⟨wB, hwB⟩ : ∃ y, y = wr := ⟨_, rfl⟩
                  subst hwB
                  go_wp2_with fail
                  clear vk vq
                  go_loopw [3, 9] (fun v y wr => ∃ j : Nat, y = .int .i64 (j : Int) ∧ k1 ≤ j ∧ j ≤ q ∧ OwnB wr w.heap.size v (l ++ (x.data.toList.drop k1).take (j - k1)) ∧ Below w.heap.size w wr) (fun _ y _ => q - (intOf y).toNat)
                  case atStart => exact ⟨k1, rfl, Nat.le_refl _, hq1, by rw [Nat.sub_self, List.take_zero, List.append_nil]; exact hown, hbel⟩
                  case round =>
                    obtain ⟨j, rfl, hj1, hj2, hoj, hbj⟩ := hrel
                    by_cases hjl : j < q
                    · have hjl' : (j : Int) < (q : Int) := by omega
                      have hjs : j < x.size := by omega
                      have hjs' : (j : Int) < (x.size : Int) := by omega
                      have hj0 : (0 : Int) ≤ (j : Int) := by omega
                      have hwj : IntKind.i64.wrap ((j : Int) + 1) = ((j + 1 : Nat) : Int) := by rw [IntKind.wrap_i64]; omega
                      have HLJ : Hid ((x.data.toList.drop k1).take (j + 1 - k1) = (x.data.toList.drop k1).take (j - k1) ++ [x[j]]) := hide (by
                        rw [show j + 1 - k1 = (j - k1) + 1 by omega, List.take_add_one, List.getElem?_drop, show k1 + (j - k1) = j by omega, List.getElem?_eq_getElem (by rw [data_len]; exact hjs), data_get x j hjs]
                        rfl)
                      obtain ⟨M, hM⟩ : ∃ M, M = l ++ (x.data.toList.drop k1).take (j - k1) := ⟨_, rfl⟩
                      have hMl : M.length ≤ 200000 := by rw [hM, List.length_append, List.length_take]; omega
                      have HM := hide hM
                      rw [← hM] at hoj
                      clear hM
                      go_wp2_with (first
                        | (at_builtin; refine wpList_append_own _ rfl (.tmp 87) (.tmp 91) 79 rfl w.heap.size 5 i0 (.int .u8 0) 1 1 und_bytes hi hz0 hz1 hz2 rfl (by decide) _ _ _ rfl (hoj.alloc _) ⟨wr.heap.size, 0, none⟩ 1 1 [.int .u8 ((x[j]).toNat : Int)] rfl rfl one_cell one_is ?c3 ?c4 ?c5 ?_)
                        | go_in)
                      case c3 => unfold maxLen; omega
                      case c4 => omega
                      case c5 => have := hbj.size; simp; omega
                      intro v' w2 hownN hgrowN _
                      have hbj2 := own_below hoj hbj hbj.size hgrowN
                      have hoj2 : OwnB w2 w.heap.size v' (M ++ [x[j]]) := own_push (zs := [.int .u8 ((x[j]).toNat : Int)]) (by simp) (by simp [Lib.byteCells]) hownN
                      clear hownN hgrowN
                      go_wp2
                      go_roundw
                      case rel => exact ⟨j + 1, by go_num, by omega, by omega, by rw [unhide HLJ, ← List.append_assoc, ← unhide HM]; exact hoj2, hbj2⟩
                      case measure => simp [intOf]; omega
                    · have hjl' : ¬ (j : Int) < (q : Int) := by omega
                      obtain rfl : j = q := by omega
                      have HT2 : Hid ((l ++ (x.data.toList.drop k1).take (j - k1)) ++ endF f false (x.data.toList.drop q1) = R) := hide (by rw [← unhide HD1]; exact unhide HT)
                      go_wp2
                      go_roundw
                      case rel => exact ⟨q1, false, _, f, rfl, rfl, by omega, by omega, by rw [List.length_append, List.length_take]; omega, unhide HT2, hoj, hbj⟩
                      case measure => simp [intOf]; omega
                · have HE2 := hide (unhide HEL hall)
                  have hsp : (x[k].toNat : Int) = 39 → b = false → ¬ (q : Int) < (x.size : Int) := by
                    intro h1 h2 h3
                    exact hall ⟨UInt8.toNat_inj.1 (show x[k].toNat = 39 by omega), h2, hqi.1 (by omega)⟩
                  have HSPB := hide hsp
                  have HCD := hide hcond
                  clear hsp hcond hall hqi hqt hqD HTW HEL HLOOP HQ
                  by_cases hqs : q < x.size
                  · have hqs' : (q : Int) < (x.size : Int) := by omega
                    have hq0 : (0 : Int) ≤ (q : Int) := by omega
                    have vq : (x[q].toNat : Int) = 39 := unhide HCD hqs' hqs
                    by_cases e39 : (x[k].toNat : Int) = 39
                    · cases b with
                      | false => exact absurd hqs' (unhide HSPB e39 rfl)
                      | true =>
                        have HE3 : Hid ((l ++ [(39 : UInt8)]) ++ endF f _ (x.data.toList.drop k1) = R) := hide (by rw [← show x[k] = 39 from UInt8.toNat_inj.1 (show x[k].toNat = 39 by omega)]; exact unhide HE2)
                        go_wp2_with (first
                          | (at_builtin; refine wpList_append_own _ rfl (.tmp 95) (.tmp 97) 79 rfl w.heap.size 5 i0 (.int .u8 0) 1 1 und_bytes hi hz0 hz1 hz2 rfl (by decide) _ _ _ rfl (hown.alloc _) ⟨wr.heap.size, 0, none⟩ 1 1 [.int .u8 (((39 : UInt8)).toNat : Int)] rfl rfl one_cell one_is ?c3 ?c4 ?c5 ?_)
                          | go_in)
                        case c3 => unfold maxLen; omega
                        case c4 => omega
                        case c5 => have := hbel.size; simp; omega
                        intro v' w2 hownN hgrowN _
                        have hb2 := own_below hown hbel hbel.size hgrowN
                        have ho2 : OwnB w2 w.heap.size v' (l ++ [(39 : UInt8)]) := own_push (zs := [.int .u8 (((39 : UInt8)).toNat : Int)]) (by simp) (by simp [Lib.byteCells]) hownN
                        clear hownN hgrowN
                        go_wp2
                        go_roundw
                        case rel => exact ⟨k1, _, l ++ [(39 : UInt8)], f, rfl, rfl, by omega, by omega, by rw [List.length_append, List.length_singleton]; omega, unhide HE3, ho2, hb2⟩
                        case measure => simp [intOf]; omega
                    · have b39 : ((x[k].toNat : Int) == 39) = false := beq_eq_false_iff_ne.2 e39
                      clear e39
                      cases b with
                      | false =>
                        go_wp2_with (first
                          | (at_builtin; refine wpList_append_own _ rfl (.tmp 95) (.tmp 97) 79 rfl w.heap.size 5 i0 (.int .u8 0) 1 1 und_bytes hi hz0 hz1 hz2 rfl (by decide) _ _ _ rfl (hown.alloc _) ⟨wr.heap.size, 0, none⟩ 1 1 [.int .u8 ((x[k]).toNat : Int)] rfl rfl one_cell one_is ?c3 ?c4 ?c5 ?_)
                          | go_in)
                        case c3 => unfold maxLen; omega
                        case c4 => omega
                        case c5 => have := hbel.size; simp; omega
                        intro v' w2 hownN hgrowN _
                        have hb2 := own_below hown hbel hbel.size hgrowN
                        have ho2 : OwnB w2 w.heap.size v' (l ++ [x[k]]) := own_push (zs := [.int .u8 ((x[k]).toNat : Int)]) (by simp) (by simp [Lib.byteCells]) hownN
                        clear hownN hgrowN
                        go_wp2
                        go_roundw
                        case rel => exact ⟨k1, _, l ++ [x[k]], f, rfl, rfl, by omega, by omega, by rw [List.length_append, List.length_singleton]; omega, unhide HE2, ho2, hb2⟩
                        case measure => simp [intOf]; omega
                      | true =>
                        go_wp2_with (first
                          | (at_builtin; refine wpList_append_own _ rfl (.tmp 95) (.tmp 97) 79 rfl w.heap.size 5 i0 (.int .u8 0) 1 1 und_bytes hi hz0 hz1 hz2 rfl (by decide) _ _ _ rfl (hown.alloc _) ⟨wr.heap.size, 0, none⟩ 1 1 [.int .u8 ((x[k]).toNat : Int)] rfl rfl one_cell one_is ?c3 ?c4 ?c5 ?_)
                          | go_in)
                        case c3 => unfold maxLen; omega
                        case c4 => omega
                        case c5 => have := hbel.size; simp; omega
                        intro v' w2 hownN hgrowN _
                        have hb2 := own_below hown hbel hbel.size hgrowN
                        have ho2 : OwnB w2 w.heap.size v' (l ++ [x[k]]) := own_push (zs := [.int .u8 ((x[k]).toNat : Int)]) (by simp) (by simp [Lib.byteCells]) hownN
                        clear hownN hgrowN
                        go_wp2
                        go_roundw
                        case rel => exact ⟨k1, _, l ++ [x[k]], f, rfl, rfl, by omega, by omega, by rw [List.length_append, List.length_singleton]; omega, unhide HE2, ho2, hb2⟩
                        case measure => simp [intOf]; omega
                  · have hqs' : ¬ (q : Int) < (x.size : Int) := by omega
                    by_cases e39 : (x[k].toNat : Int) = 39
                    · cases b with
                      | false =>
                        have HE3 : Hid ((l ++ [(39 : UInt8)]) ++ endF f _ (x.data.toList.drop k1) = R) := hide (by rw [← show x[k] = 39 from UInt8.toNat_inj.1 (show x[k].toNat = 39 by omega)]; exact unhide HE2)
                        go_wp2_with (first
                          | (at_builtin; refine wpList_append_own _ rfl (.tmp 95) (.tmp 97) 79 rfl w.heap.size 5 i0 (.int .u8 0) 1 1 und_bytes hi hz0 hz1 hz2 rfl (by decide) _ _ _ rfl (hown.alloc _) ⟨wr.heap.size, 0, none⟩ 1 1 [.int .u8 (((39 : UInt8)).toNat : Int)] rfl rfl one_cell one_is ?c3 ?c4 ?c5 ?_)
                          | go_in)
                        case c3 => unfold maxLen; omega
                        case c4 => omega
                        case c5 => have := hbel.size; simp; omega
                        intro v' w2 hownN hgrowN _
                        have hb2 := own_below hown hbel hbel.size hgrowN
                        have ho2 : OwnB w2 w.heap.size v' (l ++ [(39 : UInt8)]) := own_push (zs := [.int .u8 (((39 : UInt8)).toNat : Int)]) (by simp) (by simp [Lib.byteCells]) hownN
                        clear hownN hgrowN
                        go_wp2
                        go_roundw
                        case rel => exact ⟨k1, _, l ++ [(39 : UInt8)], f, rfl, rfl, by omega, by omega, by rw [List.length_append, List.length_singleton]; omega, unhide HE3, ho2, hb2⟩
                        case measure => simp [intOf]; omega
                      | true =>
                        have HE3 : Hid ((l ++ [(39 : UInt8)]) ++ endF f _ (x.data.toList.drop k1) = R) := hide (by rw [← show x[k] = 39 from UInt8.toNat_inj.1 (show x[k].toNat = 39 by omega)]; exact unhide HE2)
                        go_wp2_with (first
                          | (at_builtin; refine wpList_append_own _ rfl (.tmp 95) (.tmp 97) 79 rfl w.heap.size 5 i0 (.int .u8 0) 1 1 und_bytes hi hz0 hz1 hz2 rfl (by decide) _ _ _ rfl (hown.alloc _) ⟨wr.heap.size, 0, none⟩ 1 1 [.int .u8 (((39 : UInt8)).toNat : Int)] rfl rfl one_cell one_is ?c3 ?c4 ?c5 ?_)
                          | go_in)
                        case c3 => unfold maxLen; omega
                        case c4 => omega
                        case c5 => have := hbel.size; simp; omega
                        intro v' w2 hownN hgrowN _
                        have hb2 := own_below hown hbel hbel.size hgrowN
                        have ho2 : OwnB w2 w.heap.size v' (l ++ [(39 : UInt8)]) := own_push (zs := [.int .u8 (((39 : UInt8)).toNat : Int)]) (by simp) (by simp [Lib.byteCells]) hownN
                        clear hownN hgrowN
                        go_wp2
                        go_roundw
                        case rel => exact ⟨k1, _, l ++ [(39 : UInt8)], f, rfl, rfl, by omega, by omega, by rw [List.length_append, List.length_singleton]; omega, unhide HE3, ho2, hb2⟩
                        case measure => simp [intOf]; omega
                    · have b39 : ((x[k].toNat : Int) == 39) = false := beq_eq_false_iff_ne.2 e39
                      clear e39
                      cases b with
                      | false =>
                        go_wp2_with (first
                          | (at_builtin; refine wpList_append_own _ rfl (.tmp 95) (.tmp 97) 79 rfl w.heap.size 5 i0 (.int .u8 0) 1 1 und_bytes hi hz0 hz1 hz2 rfl (by decide) _ _ _ rfl (hown.alloc _) ⟨wr.heap.size, 0, none⟩ 1 1 [.int .u8 ((x[k]).toNat : Int)] rfl rfl one_cell one_is ?c3 ?c4 ?c5 ?_)
                          | go_in)
                        case c3 => unfold maxLen; omega
                        case c4 => omega
                        case c5 => have := hbel.size; simp; omega
                        intro v' w2 hownN hgrowN _
                        have hb2 := own_below hown hbel hbel.size hgrowN
                        have ho2 : OwnB w2 w.heap.size v' (l ++ [x[k]]) := own_push (zs := [.int .u8 ((x[k]).toNat : Int)]) (by simp) (by simp [Lib.byteCells]) hownN
                        clear hownN hgrowN
                        go_wp2
                        go_roundw
                        case rel => exact ⟨k1, _, l ++ [x[k]], f, rfl, rfl, by omega, by omega, by rw [List.length_append, List.length_singleton]; omega, unhide HE2, ho2, hb2⟩
                        case measure => simp [intOf]; omega
                      | true =>
                        go_wp2_with (first
                          | (at_builtin; refine wpList_append_own _ rfl (.tmp 95) (.tmp 97) 79 rfl w.heap.size 5 i0 (.int .u8 0) 1 1 und_bytes hi hz0 hz1 hz2 rfl (by decide) _ _ _ rfl (hown.alloc _) ⟨wr.heap.size, 0, none⟩ 1 1 [.int .u8 ((x[k]).toNat : Int)] rfl rfl one_cell one_is ?c3 ?c4 ?c5 ?_)
                          | go_in)
                        case c3 => unfold maxLen; omega
                        case c4 => omega
                        case c5 => have := hbel.size; simp; omega
                        intro v' w2 hownN hgrowN _
                        have hb2 := own_below hown hbel hbel.size hgrowN
                        have ho2 : OwnB w2 w.heap.size v' (l ++ [x[k]]) := own_push (zs := [.int .u8 ((x[k]).toNat : Int)]) (by simp) (by simp [Lib.byteCells]) hownN
                        clear hownN hgrowN
                        go_wp2
                        go_roundw
                        case rel => exact ⟨k1, _, l ++ [x[k]], f, rfl, rfl, by omega, by omega, by rw [List.length_append, List.length_singleton]; omega, unhide HE2, ho2, hb2⟩
                        case measure => simp [intOf]; omega
    · have hlt' : ¬ (k : Int) < (x.size : Int) := by omega
      have HE : Hid (l = R) := hide (by
        have := unhide HR
        rwa [drop_nil (by omega), endF_nil, List.append_nil] at this)
      have hcv := hown.text
      go_wp2
      go_ret
      rw [unhide HE]
      exact ⟨rfl, hbel⟩

end Go.Proofs.YtlmpdfeidjnmnaaDoor

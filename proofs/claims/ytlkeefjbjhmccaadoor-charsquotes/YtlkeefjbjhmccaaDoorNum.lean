/-
  The contracts of 'Number', the program's and the document's.
-/
import Derived.Test.YtlkeefjbjhmccaaDoorSpan
import Derived.Test.YtlkeefjbjhmccaaDoorNumPlain
namespace Go.Proofs.YtlkeefjbjhmccaaDoor
open Go.RowKit

theorem ret_two {k j : IntKind} {a b c d : Int} (h : a = b) (g : c = d) : Ending.returned (.tuple #[.int k a, .int j c]) = .returned (.tuple #[.int k b, .int j d]) := by rw [h, g]

/-- A text that is no number. -/
abbrev notNum (s : ByteArray) : Prop := s.size = 0 ∨ spanN digB s.data.toList < s.size

theorem dig_bounds {c : Int} (h : digB c = true) : 48 ≤ c ∧ c ≤ 57 := by unfold digB at h; simpa using h

set_option maxHeartbeats 1000000 in
theorem number_bad (s : ByteArray) (most : Int) (w : World) (hs : s.size ≤ 2000) (hn : notNum s) :
    Calls Tryd.prog 22 #[.string s, .int .i64 most] w fun e w' => e = .returned (.tuple #[.int .i64 0, .int .i64 10]) ∧ w' = w := by
  by_cases h0 : s.size = 0
  · have he := empty_of h0
    clear hn
    go_enter Tryd.func22, Tryd.ntmps22
    go_wp2
    go_ret2
    exact ⟨rfl, rfl⟩
  · have hlt : 0 < s.size := by omega
    have he := nonempty_of hlt
    have hn2 : (spanN digB s.data.toList : Int) < (s.size : Int) := by rcases hn with h | h <;> omega
    clear hn
    go_enter Tryd.func22, Tryd.ntmps22
    go_wp2_with (go_at_call 33; refine (span_dig _ _ hs).mono ?_; rintro e w' ⟨rfl, rfl⟩)
    go_ret2
    exact ⟨rfl, rfl⟩

set_option maxHeartbeats 1000000 in
theorem number_ok (s : ByteArray) (most : Int) (w : World) (hs : s.size ≤ 2000) (hm1 : -9223372036854775808 ≤ most) (hm2 : most ≤ 9223372036854775807) (h0 : 0 < s.size) (hall : spanN digB s.data.toList = s.size) (hd : ∀ (k : Nat) (h : k < s.size), 48 ≤ (s[k].toNat : Int) ∧ (s[k].toNat : Int) ≤ 57) :
    Calls Tryd.prog 22 #[.string s, .int .i64 most] w fun e w' => e = .returned (.tuple #[.int .i64 (numV (numLoop most 0 s.data.toList)), .int .i64 (numE (numLoop most 0 s.data.toList))]) ∧ w' = w := by
  have he := nonempty_of h0
  have hn2 : ¬ (spanN digB s.data.toList : Int) < (s.size : Int) := by omega
  have HA := hide hall
  have HD := hide hd
  clear hall hd
  go_enter Tryd.func22, Tryd.ntmps22
  go_wp2_with (go_at_call 33; refine (span_dig _ _ hs).mono ?_; rintro e w' ⟨rfl, rfl⟩)
  go_loop [6, 20] (fun a i => ∃ (k : Nat) (n : Int), k ≤ s.size ∧ i = .int .i64 k ∧ a = .int .i64 n ∧ 0 ≤ n ∧ n ≤ 9223372036854775807 ∧ numLoop most 0 s.data.toList = numLoop most n (s.data.toList.drop k)) (fun _ i => s.size - (intOf i).toNat)
  case atStart => exact ⟨0, 0, Nat.zero_le _, rfl, rfl, by omega, by omega, rfl⟩
  case round =>
    obtain ⟨k, n, hk, rfl, rfl, hn0, hn1, heq⟩ := hrel
    have HE := hide heq
    clear heq
    by_cases hlt : k < s.size
    · have hkl : k < s.data.toList.length := by simpa using hlt
      have hg := data_get s k hlt
      have ⟨hd1, hd2⟩ := (unhide HD) k hlt
      by_cases c1 : most < (s[k].toNat : Int) - 48
      · go_wp2
        go_ret2
        have e := numLoop_over (most := most) (n := n) hkl (.inl (by rw [hg]; exact c1))
        exact ⟨ret_two (by rw [unhide HE, e]; rfl) (by rw [unhide HE, e]; rfl), rfl⟩
      · by_cases c2 : (most - ((s[k].toNat : Int) - 48)) / 10 < n
        · go_wp2
          go_ret2
          have e := numLoop_over (most := most) (n := n) hkl (.inr (by rw [hg]; exact c2))
          exact ⟨ret_two (by rw [unhide HE, e]; rfl) (by rw [unhide HE, e]; rfl), rfl⟩
        · go_wp2
          go_round
          case rel => exact ⟨k + 1, 10 * n + ((s[k].toNat : Int) - 48), by omega, by go_num, by go_num, by omega, by omega, by rw [unhide HE, numLoop_step hkl (by rw [hg]; exact c1) (by rw [hg]; exact c2), hg]⟩
          case measure => simp [intOf]; omega
    · go_wp2
      go_ret2
      have e := numLoop_end (most := most) (n := n) (l := s.data.toList) (k := k) (by simp; omega)
      exact ⟨ret_two (by rw [unhide HE, e]; rfl) (by rw [unhide HE, e]; rfl), rfl⟩

set_option maxHeartbeats 1000000 in
theorem rnumber_bad (s : ByteArray) (most : Int) (w : World) (hs : s.size ≤ 2000) (hn : notNum s) :
    Calls Tryd.prog 23 #[.string s, .int .i64 most] w fun e w' => e = .returned (.tuple #[.int .i64 0, .int .i64 10]) ∧ w' = w := by
  by_cases h0 : s.size = 0
  · have he := empty_of h0
    clear hn
    go_enter Tryd.func23, Tryd.ntmps23
    go_wp2
    go_ret2
    exact ⟨rfl, rfl⟩
  · have hlt : 0 < s.size := by omega
    have he := nonempty_of hlt
    have HN := hide hn
    clear hn
    go_enter Tryd.func23, Tryd.ntmps23
    go_wp2
    go_loop [6] (fun i => ∃ k : Nat, k ≤ s.size ∧ i = .int .i64 k ∧ AllTo digB s.data.toList k) (fun i => s.size - (intOf i).toNat)
    case atStart => exact ⟨0, Nat.zero_le _, rfl, fun j hj hjk => absurd hjk (by omega)⟩
    case round =>
      obtain ⟨k, hk, rfl, hall⟩ := hrel
      by_cases hlt' : k < s.size
      · rcases Bool.eq_false_or_eq_true (digB (s[k].toNat : Int)) with h1 | h1
        · go_wp2_with (go_at_call 12; refine (rdigit_any _ _).mono ?_; rintro e w' ⟨rfl, rfl⟩)
          go_round
          case rel => exact ⟨k + 1, by omega, by go_num, hall.succ (by simpa using hlt') (by rw [data_get s k hlt']; exact h1)⟩
          case measure => simp [intOf]; omega
        · go_wp2_with (go_at_call 12; refine (rdigit_any _ _).mono ?_; rintro e w' ⟨rfl, rfl⟩)
          go_ret2
          exact ⟨rfl, rfl⟩
      · exfalso
        have := spanN_all digB s.data.toList (fun j hj _ => hall j hj (by simp at hj; omega))
        rcases unhide HN with h | h
        · omega
        · simp at this; omega

set_option maxHeartbeats 2000000 in
theorem rnumber_ok (s : ByteArray) (most : Int) (w : World) (hs : s.size ≤ 2000) (hm1 : -9223372036854775808 ≤ most) (hm2 : most ≤ 9223372036854775807) (h0 : 0 < s.size) (hd : ∀ (k : Nat) (h : k < s.size), digB (s[k].toNat : Int) = true) :
    Calls Tryd.prog 23 #[.string s, .int .i64 most] w fun e w' => e = .returned (.tuple #[.int .i64 (numV (numLoop most 0 s.data.toList)), .int .i64 (numE (numLoop most 0 s.data.toList))]) ∧ w' = w := by
  have he := nonempty_of h0
  have HD := hide hd
  clear hd
  go_enter Tryd.func23, Tryd.ntmps23
  go_wp2
  go_loop [6] (fun i => ∃ k : Nat, k ≤ s.size ∧ i = .int .i64 k) (fun i => s.size - (intOf i).toNat)
  case atStart => exact ⟨0, Nat.zero_le _, rfl⟩
  case round =>
    obtain ⟨k, hk, rfl⟩ := hrel
    by_cases hlt' : k < s.size
    · have h1 := (unhide HD) k hlt'
      go_wp2_with (go_at_call 12; refine (rdigit_any _ _).mono ?_; rintro e w' ⟨rfl, rfl⟩)
      go_round
      case rel => exact ⟨k + 1, by omega, by go_num⟩
      case measure => simp [intOf]; omega
    · go_wp2
      go_loop [7, 8] (fun a i => ∃ (k : Nat) (n : Int), k ≤ s.size ∧ i = .int .i64 k ∧ a = .int .i64 n ∧ 0 ≤ n ∧ n ≤ 9223372036854775807 ∧ numLoop most 0 s.data.toList = numLoop most n (s.data.toList.drop k)) (fun _ i => s.size - (intOf i).toNat)
      case atStart => exact ⟨0, 0, Nat.zero_le _, rfl, rfl, by omega, by omega, rfl⟩
      case round =>
        obtain ⟨k, n, hk, rfl, rfl, hn0, hn1, heq⟩ := hrel
        have HE := hide heq
        clear heq
        by_cases hlt : k < s.size
        · have hkl : k < s.data.toList.length := by simpa using hlt
          have hg := data_get s k hlt
          have ⟨hd1, hd2⟩ := dig_bounds ((unhide HD) k hlt)
          by_cases c1 : most < (s[k].toNat : Int) - 48
          · go_wp2
            go_ret2
            have e := numLoop_over (most := most) (n := n) hkl (.inl (by rw [hg]; exact c1))
            exact ⟨ret_two (by rw [unhide HE, e]; rfl) (by rw [unhide HE, e]; rfl), rfl⟩
          · by_cases c2 : (most - ((s[k].toNat : Int) - 48)) / 10 < n
            · go_wp2
              go_ret2
              have e := numLoop_over (most := most) (n := n) hkl (.inr (by rw [hg]; exact c2))
              exact ⟨ret_two (by rw [unhide HE, e]; rfl) (by rw [unhide HE, e]; rfl), rfl⟩
            · go_wp2
              go_round
              case rel => exact ⟨k + 1, 10 * n + ((s[k].toNat : Int) - 48), by omega, by go_num, by go_num, by omega, by omega, by rw [unhide HE, numLoop_step hkl (by rw [hg]; exact c1) (by rw [hg]; exact c2), hg]⟩
              case measure => simp [intOf]; omega
        · go_wp2
          go_ret2
          have e := numLoop_end (most := most) (n := n) (l := s.data.toList) (k := k) (by simp; omega)
          exact ⟨ret_two (by rw [unhide HE, e]; rfl) (by rw [unhide HE, e]; rfl), rfl⟩

/-- What 'Number' answers: the number, and the error's number. -/
def numberV (s : ByteArray) (most : Int) : Int := if notNum s then 0 else numV (numLoop most 0 s.data.toList)
def numberE (s : ByteArray) (most : Int) : Int := if notNum s then 10 else numE (numLoop most 0 s.data.toList)

theorem spanN_AllTo (p : Int → Bool) : ∀ (l : List UInt8), AllTo p l (spanN p l)
  | [] => fun j hj _ => absurd hj (by simp)
  | c :: l => by
    intro j hj hjk
    rw [spanN_cons] at hjk
    by_cases hc : p (c.toNat : Int) = true
    · rw [if_pos hc] at hjk
      match j, hj, hjk with
      | 0, _, _ => simpa using hc
      | j + 1, hj, hjk =>
        have := spanN_AllTo p l j (by simpa using hj) (by omega)
        simpa using this
    · rw [if_neg hc] at hjk; omega

theorem all_digits {s : ByteArray} (h : ¬ notNum s) : 0 < s.size ∧ spanN digB s.data.toList = s.size ∧ ∀ (k : Nat) (hk : k < s.size), digB (s[k].toNat : Int) = true := by
  have h1 : ¬ s.size = 0 := fun e => h (.inl e)
  have h2 : ¬ spanN digB s.data.toList < s.size := fun e => h (.inr e)
  have h3 := spanN_le digB s.data.toList
  have h4 : s.data.toList.length = s.size := by simp
  refine ⟨by omega, by omega, fun k hk => ?_⟩
  have := spanN_AllTo digB s.data.toList k (by omega) (by omega)
  rw [data_get s k hk] at this
  exact this

theorem number_any (s : ByteArray) (most : Int) (w : World) (hs : s.size ≤ 2000) (hm1 : -9223372036854775808 ≤ most) (hm2 : most ≤ 9223372036854775807) :
    Calls Tryd.prog 22 #[.string s, .int .i64 most] w fun e w' => e = .returned (.tuple #[.int .i64 (numberV s most), .int .i64 (numberE s most)]) ∧ w' = w := by
  unfold numberV numberE
  by_cases h : notNum s
  · rw [if_pos h, if_pos h]
    exact number_bad s most w hs h
  · rw [if_neg h, if_neg h]
    obtain ⟨h1, h2, h3⟩ := all_digits h
    exact number_ok s most w hs hm1 hm2 h1 h2 (fun k hk => dig_bounds (h3 k hk))

theorem rnumber_any (s : ByteArray) (most : Int) (w : World) (hs : s.size ≤ 2000) (hm1 : -9223372036854775808 ≤ most) (hm2 : most ≤ 9223372036854775807) :
    Calls Tryd.prog 23 #[.string s, .int .i64 most] w fun e w' => e = .returned (.tuple #[.int .i64 (numberV s most), .int .i64 (numberE s most)]) ∧ w' = w := by
  unfold numberV numberE
  by_cases h : notNum s
  · rw [if_pos h, if_pos h]
    exact rnumber_bad s most w hs h
  · rw [if_neg h, if_neg h]
    obtain ⟨h1, _, h3⟩ := all_digits h
    exact rnumber_ok s most w hs hm1 hm2 h1 h3

end Go.Proofs.YtlkeefjbjhmccaaDoor

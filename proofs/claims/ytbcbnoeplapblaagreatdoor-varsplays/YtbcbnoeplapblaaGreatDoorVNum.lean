/-
  Numbers in digits: chars.Number.
-/
import Derived.Test.YtbcbnoeplapblaaGreatDoorName
namespace Go.Proofs.YtbcbnoeplapblaaGreatDoor
open Go.RowKit

/-- The number that digits are behind a number n, where none comes above most. -/
def numLoop (most : Int) : Int → List UInt8 → Option Int
  | n, [] => some n
  | n, c :: l => if most < (c.toNat : Int) - 48 ∨ (most - ((c.toNat : Int) - 48)) / 10 < n then none else numLoop most (10 * n + ((c.toNat : Int) - 48)) l

def numV : Option Int → Int
  | some n => n
  | none => 0
def numE : Option Int → Int
  | some _ => 0
  | none => 3

theorem drop_eq (l : List UInt8) (k : Nat) (h : k < l.length) : l.drop k = l[k] :: l.drop (k + 1) := List.drop_eq_getElem_cons h

theorem numLoop_over {most n : Int} {l : List UInt8} {k : Nat} (h : k < l.length) (c : most < (l[k].toNat : Int) - 48 ∨ (most - ((l[k].toNat : Int) - 48)) / 10 < n) : numLoop most n (l.drop k) = none := by
  rw [drop_eq l k h, numLoop, if_pos c]

theorem numLoop_step {most n : Int} {l : List UInt8} {k : Nat} (h : k < l.length) (c1 : ¬ most < (l[k].toNat : Int) - 48) (c2 : ¬ (most - ((l[k].toNat : Int) - 48)) / 10 < n) : numLoop most n (l.drop k) = numLoop most (10 * n + ((l[k].toNat : Int) - 48)) (l.drop (k + 1)) := by
  rw [drop_eq l k h, numLoop, if_neg (by omega)]

theorem numLoop_end {most n : Int} {l : List UInt8} {k : Nat} (h : l.length ≤ k) : numLoop most n (l.drop k) = some n := by
  rw [List.drop_eq_nil_of_le h, numLoop]

set_option maxHeartbeats 1000000 in
theorem span_dig (s : ByteArray) (w : World) (hs : s.size ≤ 100000) :
    Calls Tryz.prog 64 #[.string s, .func (Fn.func 66) #[] #[]] w fun e w' => e = .returned (.int .i64 (spanN digB s.data.toList)) ∧ w' = w := by
  go_enter Tryz.func64, Tryz.ntmps64
  go_wp2
  go_loop [8] (fun i => ∃ k : Nat, k ≤ s.size ∧ i = .int .i64 k ∧ AllTo digB s.data.toList k) (fun i => s.size - (intOf i).toNat)
  case atStart => exact ⟨0, Nat.zero_le _, rfl, fun j hj hjk => absurd hjk (by omega)⟩
  case round =>
    obtain ⟨k, hk, rfl, hall⟩ := hrel
    by_cases hlt : k < s.size
    · rcases Bool.eq_false_or_eq_true (digB (s[k].toNat : Int)) with h1 | h1
      · go_wp2_with (go_at_call 66; refine (digit_any _ _).mono ?_; rintro e w' ⟨rfl, rfl⟩)
        go_round
        case rel => exact ⟨k + 1, by omega, by go_num, hall.succ (by simpa using hlt) (by rw [data_get s k hlt]; exact h1)⟩
        case measure => simp [intOf]; omega
      · go_wp2_with (go_at_call 66; refine (digit_any _ _).mono ?_; rintro e w' ⟨rfl, rfl⟩)
        go_ret
        exact ⟨ret_int (by rw [spanN_stop digB s.data.toList k (by simpa using hlt) hall (by rw [data_get s k hlt]; exact h1)]), rfl⟩
    · go_wp2
      go_ret
      exact ⟨ret_int (by rw [spanN_all digB s.data.toList (fun j hj _ => hall j hj (by simp at hj; omega))]; simp), rfl⟩
theorem ret_two {k j : IntKind} {a b c d : Int} (h : a = b) (g : c = d) : Ending.returned (.tuple #[.int k a, .int j c]) = .returned (.tuple #[.int k b, .int j d]) := by rw [h, g]

/-- A text that is no number. -/
abbrev notNum (s : ByteArray) : Prop := s.size = 0 ∨ spanN digB s.data.toList < s.size

theorem dig_bounds {c : Int} (h : digB c = true) : 48 ≤ c ∧ c ≤ 57 := by unfold digB at h; simpa using h

set_option maxHeartbeats 1000000 in
theorem number_bad (s : ByteArray) (most : Int) (w : World) (hs : s.size ≤ 100000) (hn : notNum s) :
    Calls Tryz.prog 56 #[.string s, .int .i64 most] w fun e w' => e = .returned (.tuple #[.int .i64 0, .int .i64 10]) ∧ w' = w := by
  by_cases h0 : s.size = 0
  · have he := empty_of h0
    clear hn
    go_enter Tryz.func56, Tryz.ntmps56
    go_wp2
    go_ret2
    exact ⟨rfl, rfl⟩
  · have hlt : 0 < s.size := by omega
    have he := nonempty_of hlt
    have hn2 : (spanN digB s.data.toList : Int) < (s.size : Int) := by rcases hn with h | h <;> omega
    clear hn
    go_enter Tryz.func56, Tryz.ntmps56
    go_wp2_with (go_at_call 64; refine (span_dig _ _ hs).mono ?_; rintro e w' ⟨rfl, rfl⟩)
    go_ret2
    exact ⟨rfl, rfl⟩

set_option maxHeartbeats 1000000 in
theorem number_ok (s : ByteArray) (most : Int) (w : World) (hs : s.size ≤ 100000) (hm1 : -9223372036854775808 ≤ most) (hm2 : most ≤ 9223372036854775807) (h0 : 0 < s.size) (hall : spanN digB s.data.toList = s.size) (hd : ∀ (k : Nat) (h : k < s.size), 48 ≤ (s[k].toNat : Int) ∧ (s[k].toNat : Int) ≤ 57) :
    Calls Tryz.prog 56 #[.string s, .int .i64 most] w fun e w' => e = .returned (.tuple #[.int .i64 (numV (numLoop most 0 s.data.toList)), .int .i64 (numE (numLoop most 0 s.data.toList))]) ∧ w' = w := by
  have he := nonempty_of h0
  have hn2 : ¬ (spanN digB s.data.toList : Int) < (s.size : Int) := by omega
  have HA := hide hall
  have HD := hide hd
  clear hall hd
  go_enter Tryz.func56, Tryz.ntmps56
  go_wp2_with (go_at_call 64; refine (span_dig _ _ hs).mono ?_; rintro e w' ⟨rfl, rfl⟩)
  go_loop [6, 20] (fun a i => ∃ (k : Nat) (n : Int), k ≤ s.size ∧ i = .int .i64 k ∧ a = .int .i64 n ∧ 0 ≤ n ∧ n ≤ 9223372036854775807 ∧ numLoop most 0 s.data.toList = numLoop most n (s.data.toList.drop k)) (fun _ i => s.size - (intOf i).toNat)
  case atStart => exact ⟨0, 0, Nat.zero_le _, rfl, rfl, by omega, by omega, rfl⟩
  case round =>
    obtain ⟨k, n, hk, rfl, rfl, hn0, hn1, heq⟩ := hrel
    have HE := hide heq
    clear heq
    by_cases hlt : k < s.size
    · have hkl : k < s.data.toList.length := by simpa using hlt
      have hg := data_get s k hlt
      have ⟨hd1, hd2⟩ := (unhide HD) k hlt
      by_cases c1 : most < (s[k].toNat : Int) - 48
      · go_wp2
        go_ret2
        have e := numLoop_over (most := most) (n := n) hkl (.inl (by rw [hg]; exact c1))
        exact ⟨ret_two (by rw [unhide HE, e]; rfl) (by rw [unhide HE, e]; rfl), rfl⟩
      · by_cases c2 : (most - ((s[k].toNat : Int) - 48)) / 10 < n
        · go_wp2
          go_ret2
          have e := numLoop_over (most := most) (n := n) hkl (.inr (by rw [hg]; exact c2))
          exact ⟨ret_two (by rw [unhide HE, e]; rfl) (by rw [unhide HE, e]; rfl), rfl⟩
        · go_wp2
          go_round
          case rel => exact ⟨k + 1, 10 * n + ((s[k].toNat : Int) - 48), by omega, by go_num, by go_num, by omega, by omega, by rw [unhide HE, numLoop_step hkl (by rw [hg]; exact c1) (by rw [hg]; exact c2), hg]⟩
          case measure => simp [intOf]; omega
    · go_wp2
      go_ret2
      have e := numLoop_end (most := most) (n := n) (l := s.data.toList) (k := k) (by simp; omega)
      exact ⟨ret_two (by rw [unhide HE, e]; rfl) (by rw [unhide HE, e]; rfl), rfl⟩

/-- What 'Number' answers: the number, and the error's number. -/
def numberV (s : ByteArray) (most : Int) : Int := if notNum s then 0 else numV (numLoop most 0 s.data.toList)
def numberE (s : ByteArray) (most : Int) : Int := if notNum s then 10 else numE (numLoop most 0 s.data.toList)

theorem spanN_AllTo (p : Int → Bool) : ∀ (l : List UInt8), AllTo p l (spanN p l)
  | [] => fun j hj _ => absurd hj (by simp)
  | c :: l => by
    intro j hj hjk
    rw [spanN_cons] at hjk
    by_cases hc : p (c.toNat : Int) = true
    · rw [if_pos hc] at hjk
      match j, hj, hjk with
      | 0, _, _ => simpa using hc
      | j + 1, hj, hjk =>
        have := spanN_AllTo p l j (by simpa using hj) (by omega)
        simpa using this
    · rw [if_neg hc] at hjk; omega

theorem all_digits {s : ByteArray} (h : ¬ notNum s) : 0 < s.size ∧ spanN digB s.data.toList = s.size ∧ ∀ (k : Nat) (hk : k < s.size), digB (s[k].toNat : Int) = true := by
  have h1 : ¬ s.size = 0 := fun e => h (.inl e)
  have h2 : ¬ spanN digB s.data.toList < s.size := fun e => h (.inr e)
  have h3 := spanN_le digB s.data.toList
  have h4 : s.data.toList.length = s.size := by simp
  refine ⟨by omega, by omega, fun k hk => ?_⟩
  have := spanN_AllTo digB s.data.toList k (by omega) (by omega)
  rw [data_get s k hk] at this
  exact this

theorem number_any (s : ByteArray) (most : Int) (w : World) (hs : s.size ≤ 100000) (hm1 : -9223372036854775808 ≤ most) (hm2 : most ≤ 9223372036854775807) :
    Calls Tryz.prog 56 #[.string s, .int .i64 most] w fun e w' => e = .returned (.tuple #[.int .i64 (numberV s most), .int .i64 (numberE s most)]) ∧ w' = w := by
  unfold numberV numberE
  by_cases h : notNum s
  · rw [if_pos h, if_pos h]
    exact number_bad s most w hs h
  · rw [if_neg h, if_neg h]
    obtain ⟨h1, h2, h3⟩ := all_digits h
    exact number_ok s most w hs hm1 hm2 h1 h2 (fun k hk => dig_bounds (h3 k hk))

theorem numLoop_le {most : Int} : ∀ {l : List UInt8} {n m : Int}, n ≤ most → numLoop most n l = some m → m ≤ most
  | [], n, m, h, e => by
    rw [numLoop] at e
    injection e with e
    omega
  | c :: l, n, m, h, e => by
    rw [numLoop] at e
    split at e
    · cases e
    · rename_i hc
      exact numLoop_le (l := l) (by omega) e
theorem numLoop_ge {most : Int} : ∀ {l : List UInt8} {n m : Int}, 1 ≤ n → (∀ c ∈ l, 48 ≤ (c.toNat : Int)) → numLoop most n l = some m → 1 ≤ m
  | [], n, m, h, _, e => by
    rw [numLoop] at e
    injection e with e
    omega
  | c :: l, n, m, h, hd, e => by
    rw [numLoop] at e
    split at e
    · cases e
    · have := hd c (by simp)
      exact numLoop_ge (l := l) (by omega) (fun x hx => hd x (by simp [hx])) e
theorem digits_of {l : List UInt8} (h : ¬ notNum (BA l)) : l ≠ [] ∧ ∀ c ∈ l, digB (c.toNat : Int) = true := by
  obtain ⟨h1, h2, h3⟩ := all_digits h
  rw [BA_size] at h1
  refine ⟨fun e => by rw [e] at h1; simp at h1, fun c hc => ?_⟩
  obtain ⟨k, hk, rfl⟩ := List.mem_iff_getElem.1 hc
  exact h3 k (by rw [BA_size]; exact hk)
/-- A number that is one: from 1 to the most, where no nought is ahead. -/
theorem number_range {l : List UInt8} {most : Int} (hm : 0 ≤ most) (h : numberE (BA l) most = 0) (h0 : l.head? ≠ some 48) : 1 ≤ numberV (BA l) most ∧ numberV (BA l) most ≤ most ∧ l ≠ [] := by
  unfold numberE at h
  split at h
  · cases h
  · rename_i hn
    obtain ⟨hne, hd⟩ := digits_of hn
    unfold numberV
    rw [if_neg hn]
    cases hl : numLoop most 0 (BA l).data.toList with
    | none => rw [hl] at h; cases h
    | some n =>
      rw [BA_list] at hl
      refine ⟨?_, numLoop_le hm hl, hne⟩
      cases l with
      | nil => exact absurd rfl hne
      | cons c l =>
        rw [numLoop] at hl
        split at hl
        · cases hl
        · have hc := dig_bounds (hd c (by simp))
          have hc0 : c ≠ 48 := fun e => h0 (by rw [e]; rfl)
          have : (c.toNat : Int) ≠ 48 := fun e => hc0 (UInt8.toNat_inj.1 (by simpa using Int.ofNat.inj e))
          exact numLoop_ge (l := l) (by omega) (fun x hx => (dig_bounds (hd x (by simp [hx]))).1) hl

end Go.Proofs.YtbcbnoeplapblaaGreatDoor

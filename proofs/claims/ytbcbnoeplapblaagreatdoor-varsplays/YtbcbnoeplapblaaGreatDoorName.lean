/-
  Names: Alpha, Front, of the program and of the document.
-/
import Derived.Test.YtbcbnoeplapblaaGreatDoorChars
namespace Go.Proofs.YtbcbnoeplapblaaGreatDoor
open Go.RowKit

/-- How many bytes at a list's front are of a class. -/
def spanN (p : Int → Bool) (l : List UInt8) : Nat := (l.takeWhile fun c => p (c.toNat : Int)).length

theorem spanN_le (p : Int → Bool) (l : List UInt8) : spanN p l ≤ l.length := by
  unfold spanN; exact (List.takeWhile_sublist _).length_le

/-- All bytes ahead of place k are of the class. -/
def AllTo (p : Int → Bool) (l : List UInt8) (k : Nat) : Prop := ∀ j (h : j < l.length), j < k → p (l[j].toNat : Int) = true

theorem AllTo.succ {p : Int → Bool} {l : List UInt8} {k : Nat} (h : AllTo p l k) (hk : k < l.length) (e : p (l[k].toNat : Int) = true) : AllTo p l (k + 1) := by
  intro j hj hjk
  by_cases hjk' : j < k
  · exact h j hj hjk'
  · have : j = k := by omega
    subst this; exact e

theorem spanN_cons (p : Int → Bool) (c : UInt8) (l : List UInt8) : spanN p (c :: l) = if p (c.toNat : Int) = true then spanN p l + 1 else 0 := by
  unfold spanN
  rw [List.takeWhile_cons]
  split <;> simp

theorem spanN_stop (p : Int → Bool) : ∀ (l : List UInt8) (k : Nat) (hk : k < l.length), AllTo p l k → p (l[k].toNat : Int) = false → spanN p l = k
  | c :: l, 0, _, _, e => by
    rw [spanN_cons]
    simp at e
    simp [e]
  | c :: l, k + 1, hk, h, e => by
    rw [spanN_cons]
    have h0 : p (c.toNat : Int) = true := h 0 (by simp) (by omega)
    rw [if_pos h0]
    have hk' : k < l.length := by simpa using hk
    have := spanN_stop p l k hk' (fun j hj hjk => by have := h (j + 1) (by simp; omega) (by omega); simpa using this) (by simpa using e)
    omega

theorem spanN_all (p : Int → Bool) : ∀ (l : List UInt8), AllTo p l l.length → spanN p l = l.length
  | [], _ => rfl
  | c :: l, h => by
    rw [spanN_cons]
    have h0 : p (c.toNat : Int) = true := h 0 (by simp) (by simp)
    rw [if_pos h0]
    have := spanN_all p l (fun j hj _ => by have := h (j + 1) (by simp; omega) (by simp; omega); simpa using this)
    simp; omega


def alpB (c : Int) : Bool := (decide (97 ≤ c) && decide (c ≤ 122)) || (decide (65 ≤ c) && decide (c ≤ 90)) || c == 95
set_option maxHeartbeats 1000000 in
theorem alpha_any (c : Int) (w : World) :
    Calls Tryz.prog 63 #[.int .u8 c] w fun e w' => e = .returned (.bool (alpB c)) ∧ w' = w := by
  by_cases h1 : 97 ≤ c
  all_goals by_cases h2 : c ≤ 122
  all_goals by_cases h3 : 65 ≤ c
  all_goals by_cases h4 : c ≤ 90
  all_goals try omega
  all_goals rcases Bool.eq_false_or_eq_true (c == 95) with h5 | h5
  all_goals
    go_enter Tryz.func63, Tryz.ntmps63
    go_wp2
    go_ret
    exact ⟨ret_bool (by unfold alpB; simp [*]), rfl⟩

set_option maxHeartbeats 1000000 in
theorem ralpha_any (c : Int) (w : World) :
    Calls Tryz.prog 67 #[.int .u8 c] w fun e w' => e = .returned (.bool (alpB c)) ∧ w' = w := by
  by_cases h1 : 97 ≤ c
  all_goals by_cases h2 : c ≤ 122
  all_goals by_cases h3 : 65 ≤ c
  all_goals by_cases h4 : c ≤ 90
  all_goals try omega
  all_goals rcases Bool.eq_false_or_eq_true (c == 95) with h5 | h5
  all_goals
    go_enter Tryz.func67, Tryz.ntmps67
    go_wp2
    go_ret
    exact ⟨ret_bool (by unfold alpB; simp [*]), rfl⟩

def namB (c : Int) : Bool := alpB c || digB c

set_option maxHeartbeats 400000 in
theorem front1_any (c : Int) (w : World) :
    Calls Tryz.prog 65 #[.int .u8 c] w fun e w' => e = .returned (.bool (namB c)) ∧ w' = w := by
  rcases Bool.eq_false_or_eq_true (alpB c) with h1 | h1
  all_goals
    go_enter Tryz.func65, Tryz.ntmps65
    go_wp2_with (first | (go_at_call 63; refine (alpha_any _ _).mono ?_; rintro e w' ⟨rfl, rfl⟩) | (go_at_call 66; refine (digit_any _ _).mono ?_; rintro e w' ⟨rfl, rfl⟩))
    go_ret
    exact ⟨ret_bool (by unfold namB; simp [*]), rfl⟩

set_option maxHeartbeats 1000000 in
theorem span_nam (s : ByteArray) (w : World) (hs : s.size ≤ 100000) :
    Calls Tryz.prog 64 #[.string s, .func (Fn.func 65) #[] #[]] w fun e w' => e = .returned (.int .i64 (spanN namB s.data.toList)) ∧ w' = w := by
  go_enter Tryz.func64, Tryz.ntmps64
  go_wp2
  go_loop [8] (fun i => ∃ k : Nat, k ≤ s.size ∧ i = .int .i64 k ∧ AllTo namB s.data.toList k) (fun i => s.size - (intOf i).toNat)
  case atStart => exact ⟨0, Nat.zero_le _, rfl, fun j hj hjk => absurd hjk (by omega)⟩
  case round =>
    obtain ⟨k, hk, rfl, hall⟩ := hrel
    by_cases hlt : k < s.size
    · rcases Bool.eq_false_or_eq_true (namB (s[k].toNat : Int)) with h1 | h1
      · go_wp2_with (go_at_call 65; refine (front1_any _ _).mono ?_; rintro e w' ⟨rfl, rfl⟩)
        go_round
        case rel => exact ⟨k + 1, by omega, by go_num, hall.succ (by simpa using hlt) (by rw [data_get s k hlt]; exact h1)⟩
        case measure => simp [intOf]; omega
      · go_wp2_with (go_at_call 65; refine (front1_any _ _).mono ?_; rintro e w' ⟨rfl, rfl⟩)
        go_ret
        exact ⟨ret_int (by rw [spanN_stop namB s.data.toList k (by simpa using hlt) hall (by rw [data_get s k hlt]; exact h1)]), rfl⟩
    · go_wp2
      go_ret
      exact ⟨ret_int (by rw [spanN_all namB s.data.toList (fun j hj _ => hall j hj (by simp at hj; omega))]; simp), rfl⟩

/-- How many bytes a name has at a text's front. -/
def frontN : List UInt8 → Nat
  | [] => 0
  | c :: l => if alpB (c.toNat : Int) = true then spanN namB (c :: l) else 0

theorem empty_of {s : ByteArray} (h : s.size = 0) : s.toList.isEmpty = true := by
  rw [ByteArray.toList_eq]
  have : s.data.toList.length = 0 := by simpa using h
  rw [List.eq_nil_of_length_eq_zero this]; rfl
theorem nonempty_of {s : ByteArray} (h : 0 < s.size) : s.toList.isEmpty = false := by
  rw [ByteArray.toList_eq]
  cases hl : s.data.toList with
  | nil => have : s.data.toList.length = 0 := by rw [hl]; rfl
           have : s.size = 0 := by simpa using this
           omega
  | cons _ _ => rfl
theorem frontN_empty {s : ByteArray} (h : s.size = 0) : frontN s.data.toList = 0 := by
  have : s.data.toList.length = 0 := by simpa using h
  rw [List.eq_nil_of_length_eq_zero this]; rfl
theorem frontN_no {s : ByteArray} (h : 0 < s.size) (e : alpB (s[0].toNat : Int) = false) : frontN s.data.toList = 0 := by
  have hg := data_get s 0 h
  cases hl : s.data.toList with
  | nil => rfl
  | cons c l =>
    simp only [hl, List.getElem_cons_zero] at hg
    subst hg
    simp [frontN, e]
theorem frontN_yes {s : ByteArray} (h : 0 < s.size) (e : alpB (s[0].toNat : Int) = true) : frontN s.data.toList = spanN namB s.data.toList := by
  have hg := data_get s 0 h
  cases hl : s.data.toList with
  | nil => rfl
  | cons c l =>
    simp only [hl, List.getElem_cons_zero] at hg
    subst hg
    simp [frontN, e]

set_option maxHeartbeats 1000000 in
theorem front_any (s : ByteArray) (w : World) (hs : s.size ≤ 100000) :
    Calls Tryz.prog 55 #[.string s] w fun e w' => e = .returned (.int .i64 (frontN s.data.toList)) ∧ w' = w := by
  by_cases h0 : s.size = 0
  · have he := empty_of h0
    go_enter Tryz.func55, Tryz.ntmps55
    go_wp2
    go_ret
    exact ⟨ret_int (by rw [frontN_empty h0]; rfl), rfl⟩
  · have hlt : 0 < s.size := by omega
    have he := nonempty_of hlt
    rcases Bool.eq_false_or_eq_true (alpB (s[0].toNat : Int)) with h1 | h1
    · go_enter Tryz.func55, Tryz.ntmps55
      go_wp2_with (first | (go_at_call 63; refine (alpha_any _ _).mono ?_; rintro e w' ⟨rfl, rfl⟩) | (go_at_call 64; refine (span_nam _ _ hs).mono ?_; rintro e w' ⟨rfl, rfl⟩))
      go_ret
      exact ⟨ret_int (by rw [frontN_yes hlt h1]), rfl⟩
    · go_enter Tryz.func55, Tryz.ntmps55
      go_wp2_with (go_at_call 63; refine (alpha_any _ _).mono ?_; rintro e w' ⟨rfl, rfl⟩)
      go_ret
      exact ⟨ret_int (by rw [frontN_no hlt h1]; rfl), rfl⟩

set_option maxHeartbeats 1000000 in
theorem rfront_any (s : ByteArray) (w : World) (hs : s.size ≤ 100000) :
    Calls Tryz.prog 57 #[.string s] w fun e w' => e = .returned (.int .i64 (frontN s.data.toList)) ∧ w' = w := by
  by_cases h0 : s.size = 0
  · have he := empty_of h0
    go_enter Tryz.func57, Tryz.ntmps57
    go_wp2
    go_ret
    exact ⟨ret_int (by rw [frontN_empty h0]; rfl), rfl⟩
  · have hlt : 0 < s.size := by omega
    have he := nonempty_of hlt
    rcases Bool.eq_false_or_eq_true (alpB (s[0].toNat : Int)) with h1 | h1
    · have hst : AllTo namB s.data.toList 1 := fun j hj hj1 => by
        have : j = 0 := by omega
        subst this
        rw [data_get s 0 hlt]; unfold namB; rw [h1]; rfl
      go_enter Tryz.func57, Tryz.ntmps57
      go_wp2_with (go_at_call 67; refine (ralpha_any _ _).mono ?_; rintro e w' ⟨rfl, rfl⟩)
      go_loop [3] (fun i => ∃ k : Nat, k ≤ s.size ∧ i = .int .i64 k ∧ AllTo namB s.data.toList k) (fun i => s.size - (intOf i).toNat)
      case atStart => exact ⟨1, by omega, rfl, hst⟩
      case round =>
        obtain ⟨k, hk, rfl, hall⟩ := hrel
        by_cases hlt' : k < s.size
        · rcases Bool.eq_false_or_eq_true (alpB (s[k].toNat : Int)) with h2 | h2
          · go_wp2_with (first | (go_at_call 67; refine (ralpha_any _ _).mono ?_; rintro e w' ⟨rfl, rfl⟩) | (go_at_call 68; refine (rdigit_any _ _).mono ?_; rintro e w' ⟨rfl, rfl⟩))
            go_round
            case rel => exact ⟨k + 1, by omega, by go_num, hall.succ (by simpa using hlt') (by rw [data_get s k hlt']; unfold namB; rw [h2]; rfl)⟩
            case measure => simp [intOf]; omega
          · rcases Bool.eq_false_or_eq_true (digB (s[k].toNat : Int)) with h3 | h3
            · go_wp2_with (first | (go_at_call 67; refine (ralpha_any _ _).mono ?_; rintro e w' ⟨rfl, rfl⟩) | (go_at_call 68; refine (rdigit_any _ _).mono ?_; rintro e w' ⟨rfl, rfl⟩))
              go_round
              case rel => exact ⟨k + 1, by omega, by go_num, hall.succ (by simpa using hlt') (by rw [data_get s k hlt']; unfold namB; rw [h2, h3]; rfl)⟩
              case measure => simp [intOf]; omega
            · go_wp2_with (first | (go_at_call 67; refine (ralpha_any _ _).mono ?_; rintro e w' ⟨rfl, rfl⟩) | (go_at_call 68; refine (rdigit_any _ _).mono ?_; rintro e w' ⟨rfl, rfl⟩))
              go_ret
              exact ⟨ret_int (by rw [frontN_yes hlt h1, spanN_stop namB s.data.toList k (by simpa using hlt') hall (by rw [data_get s k hlt']; unfold namB; rw [h2, h3]; rfl)]), rfl⟩
        · go_wp2
          go_ret
          exact ⟨ret_int (by rw [frontN_yes hlt h1, spanN_all namB s.data.toList (fun j hj _ => hall j hj (by simp at hj; omega))]; simp; omega), rfl⟩
    · go_enter Tryz.func57, Tryz.ntmps57
      go_wp2_with (go_at_call 67; refine (ralpha_any _ _).mono ?_; rintro e w' ⟨rfl, rfl⟩)
      go_ret
      exact ⟨ret_int (by rw [frontN_no hlt h1]; rfl), rfl⟩


end Go.Proofs.YtbcbnoeplapblaaGreatDoor

/-
  The contracts of the program's 'span' at its two classes, of 'Front', 'Name' and of the document's.
-/
import Derived.Test.YtlkeefjbjhmccaaDoorLeaf
import Derived.Test.YtlkeefjbjhmccaaDoorPlain
namespace Go.Proofs.YtlkeefjbjhmccaaDoor
open Go.RowKit

def namB (c : Int) : Bool := alpB c || digB c

set_option maxHeartbeats 400000 in
theorem front1_any (c : Int) (w : World) :
    Calls Tryd.prog 34 #[.int .u8 c] w fun e w' => e = .returned (.bool (namB c)) ∧ w' = w := by
  rcases Bool.eq_false_or_eq_true (alpB c) with h1 | h1
  all_goals
    go_enter Tryd.func34, Tryd.ntmps34
    go_wp2_with (first | (go_at_call 13; refine (alpha_any _ _).mono ?_; rintro e w' ⟨rfl, rfl⟩) | (go_at_call 11; refine (digit_any _ _).mono ?_; rintro e w' ⟨rfl, rfl⟩))
    go_ret
    exact ⟨ret_bool (by unfold namB; simp [*]), rfl⟩

theorem ret_int {k : IntKind} {a b : Int} (h : a = b) : Ending.returned (.int k a) = .returned (.int k b) := by rw [h]

theorem data_get (s : ByteArray) (k : Nat) (h : k < s.size) : s.data.toList[k]'(by simpa using h) = s[k] := by
  simp; rfl

set_option maxHeartbeats 1000000 in
theorem span_dig (s : ByteArray) (w : World) (hs : s.size ≤ 2000) :
    Calls Tryd.prog 33 #[.string s, .func (Fn.func 11) #[] #[]] w fun e w' => e = .returned (.int .i64 (spanN digB s.data.toList)) ∧ w' = w := by
  go_enter Tryd.func33, Tryd.ntmps33
  go_wp2
  go_loop [8] (fun i => ∃ k : Nat, k ≤ s.size ∧ i = .int .i64 k ∧ AllTo digB s.data.toList k) (fun i => s.size - (intOf i).toNat)
  case atStart => exact ⟨0, Nat.zero_le _, rfl, fun j hj hjk => absurd hjk (by omega)⟩
  case round =>
    obtain ⟨k, hk, rfl, hall⟩ := hrel
    by_cases hlt : k < s.size
    · rcases Bool.eq_false_or_eq_true (digB (s[k].toNat : Int)) with h1 | h1
      · go_wp2_with (go_at_call 11; refine (digit_any _ _).mono ?_; rintro e w' ⟨rfl, rfl⟩)
        go_round
        case rel => exact ⟨k + 1, by omega, by go_num, hall.succ (by simpa using hlt) (by rw [data_get s k hlt]; exact h1)⟩
        case measure => simp [intOf]; omega
      · go_wp2_with (go_at_call 11; refine (digit_any _ _).mono ?_; rintro e w' ⟨rfl, rfl⟩)
        go_ret
        exact ⟨ret_int (by rw [spanN_stop digB s.data.toList k (by simpa using hlt) hall (by rw [data_get s k hlt]; exact h1)]), rfl⟩
    · go_wp2
      go_ret
      exact ⟨ret_int (by rw [spanN_all digB s.data.toList (fun j hj _ => hall j hj (by simp at hj; omega))]; simp), rfl⟩

set_option maxHeartbeats 1000000 in
theorem span_nam (s : ByteArray) (w : World) (hs : s.size ≤ 2000) :
    Calls Tryd.prog 33 #[.string s, .func (Fn.func 34) #[] #[]] w fun e w' => e = .returned (.int .i64 (spanN namB s.data.toList)) ∧ w' = w := by
  go_enter Tryd.func33, Tryd.ntmps33
  go_wp2
  go_loop [8] (fun i => ∃ k : Nat, k ≤ s.size ∧ i = .int .i64 k ∧ AllTo namB s.data.toList k) (fun i => s.size - (intOf i).toNat)
  case atStart => exact ⟨0, Nat.zero_le _, rfl, fun j hj hjk => absurd hjk (by omega)⟩
  case round =>
    obtain ⟨k, hk, rfl, hall⟩ := hrel
    by_cases hlt : k < s.size
    · rcases Bool.eq_false_or_eq_true (namB (s[k].toNat : Int)) with h1 | h1
      · go_wp2_with (go_at_call 34; refine (front1_any _ _).mono ?_; rintro e w' ⟨rfl, rfl⟩)
        go_round
        case rel => exact ⟨k + 1, by omega, by go_num, hall.succ (by simpa using hlt) (by rw [data_get s k hlt]; exact h1)⟩
        case measure => simp [intOf]; omega
      · go_wp2_with (go_at_call 34; refine (front1_any _ _).mono ?_; rintro e w' ⟨rfl, rfl⟩)
        go_ret
        exact ⟨ret_int (by rw [spanN_stop namB s.data.toList k (by simpa using hlt) hall (by rw [data_get s k hlt]; exact h1)]), rfl⟩
    · go_wp2
      go_ret
      exact ⟨ret_int (by rw [spanN_all namB s.data.toList (fun j hj _ => hall j hj (by simp at hj; omega))]; simp), rfl⟩

/-- How many bytes a name has at a text's front. -/
def frontN : List UInt8 → Nat
  | [] => 0
  | c :: l => if alpB (c.toNat : Int) = true then spanN namB (c :: l) else 0

theorem empty_of {s : ByteArray} (h : s.size = 0) : s.toList.isEmpty = true := by
  rw [ByteArray.toList_eq]
  have : s.data.toList.length = 0 := by simpa using h
  rw [List.eq_nil_of_length_eq_zero this]; rfl
theorem nonempty_of {s : ByteArray} (h : 0 < s.size) : s.toList.isEmpty = false := by
  rw [ByteArray.toList_eq]
  cases hl : s.data.toList with
  | nil => have : s.data.toList.length = 0 := by rw [hl]; rfl
           have : s.size = 0 := by simpa using this
           omega
  | cons _ _ => rfl
theorem frontN_empty {s : ByteArray} (h : s.size = 0) : frontN s.data.toList = 0 := by
  have : s.data.toList.length = 0 := by simpa using h
  rw [List.eq_nil_of_length_eq_zero this]; rfl
theorem frontN_no {s : ByteArray} (h : 0 < s.size) (e : alpB (s[0].toNat : Int) = false) : frontN s.data.toList = 0 := by
  have hg := data_get s 0 h
  cases hl : s.data.toList with
  | nil => rfl
  | cons c l =>
    simp only [hl, List.getElem_cons_zero] at hg
    subst hg
    simp [frontN, e]
theorem frontN_yes {s : ByteArray} (h : 0 < s.size) (e : alpB (s[0].toNat : Int) = true) : frontN s.data.toList = spanN namB s.data.toList := by
  have hg := data_get s 0 h
  cases hl : s.data.toList with
  | nil => rfl
  | cons c l =>
    simp only [hl, List.getElem_cons_zero] at hg
    subst hg
    simp [frontN, e]

set_option maxHeartbeats 1000000 in
theorem front_any (s : ByteArray) (w : World) (hs : s.size ≤ 2000) :
    Calls Tryd.prog 18 #[.string s] w fun e w' => e = .returned (.int .i64 (frontN s.data.toList)) ∧ w' = w := by
  by_cases h0 : s.size = 0
  · have he := empty_of h0
    go_enter Tryd.func18, Tryd.ntmps18
    go_wp2
    go_ret
    exact ⟨ret_int (by rw [frontN_empty h0]; rfl), rfl⟩
  · have hlt : 0 < s.size := by omega
    have he := nonempty_of hlt
    rcases Bool.eq_false_or_eq_true (alpB (s[0].toNat : Int)) with h1 | h1
    · go_enter Tryd.func18, Tryd.ntmps18
      go_wp2_with (first | (go_at_call 13; refine (alpha_any _ _).mono ?_; rintro e w' ⟨rfl, rfl⟩) | (go_at_call 33; refine (span_nam _ _ hs).mono ?_; rintro e w' ⟨rfl, rfl⟩))
      go_ret
      exact ⟨ret_int (by rw [frontN_yes hlt h1]), rfl⟩
    · go_enter Tryd.func18, Tryd.ntmps18
      go_wp2_with (go_at_call 13; refine (alpha_any _ _).mono ?_; rintro e w' ⟨rfl, rfl⟩)
      go_ret
      exact ⟨ret_int (by rw [frontN_no hlt h1]; rfl), rfl⟩

set_option maxHeartbeats 1000000 in
theorem rfront_any (s : ByteArray) (w : World) (hs : s.size ≤ 2000) :
    Calls Tryd.prog 19 #[.string s] w fun e w' => e = .returned (.int .i64 (frontN s.data.toList)) ∧ w' = w := by
  by_cases h0 : s.size = 0
  · have he := empty_of h0
    go_enter Tryd.func19, Tryd.ntmps19
    go_wp2
    go_ret
    exact ⟨ret_int (by rw [frontN_empty h0]; rfl), rfl⟩
  · have hlt : 0 < s.size := by omega
    have he := nonempty_of hlt
    rcases Bool.eq_false_or_eq_true (alpB (s[0].toNat : Int)) with h1 | h1
    · have hst : AllTo namB s.data.toList 1 := fun j hj hj1 => by
        have : j = 0 := by omega
        subst this
        rw [data_get s 0 hlt]; unfold namB; rw [h1]; rfl
      go_enter Tryd.func19, Tryd.ntmps19
      go_wp2_with (go_at_call 14; refine (ralpha_any _ _).mono ?_; rintro e w' ⟨rfl, rfl⟩)
      go_loop [3] (fun i => ∃ k : Nat, k ≤ s.size ∧ i = .int .i64 k ∧ AllTo namB s.data.toList k) (fun i => s.size - (intOf i).toNat)
      case atStart => exact ⟨1, by omega, rfl, hst⟩
      case round =>
        obtain ⟨k, hk, rfl, hall⟩ := hrel
        by_cases hlt' : k < s.size
        · rcases Bool.eq_false_or_eq_true (alpB (s[k].toNat : Int)) with h2 | h2
          · go_wp2_with (first | (go_at_call 14; refine (ralpha_any _ _).mono ?_; rintro e w' ⟨rfl, rfl⟩) | (go_at_call 12; refine (rdigit_any _ _).mono ?_; rintro e w' ⟨rfl, rfl⟩))
            go_round
            case rel => exact ⟨k + 1, by omega, by go_num, hall.succ (by simpa using hlt') (by rw [data_get s k hlt']; unfold namB; rw [h2]; rfl)⟩
            case measure => simp [intOf]; omega
          · rcases Bool.eq_false_or_eq_true (digB (s[k].toNat : Int)) with h3 | h3
            · go_wp2_with (first | (go_at_call 14; refine (ralpha_any _ _).mono ?_; rintro e w' ⟨rfl, rfl⟩) | (go_at_call 12; refine (rdigit_any _ _).mono ?_; rintro e w' ⟨rfl, rfl⟩))
              go_round
              case rel => exact ⟨k + 1, by omega, by go_num, hall.succ (by simpa using hlt') (by rw [data_get s k hlt']; unfold namB; rw [h2, h3]; rfl)⟩
              case measure => simp [intOf]; omega
            · go_wp2_with (first | (go_at_call 14; refine (ralpha_any _ _).mono ?_; rintro e w' ⟨rfl, rfl⟩) | (go_at_call 12; refine (rdigit_any _ _).mono ?_; rintro e w' ⟨rfl, rfl⟩))
              go_ret
              exact ⟨ret_int (by rw [frontN_yes hlt h1, spanN_stop namB s.data.toList k (by simpa using hlt') hall (by rw [data_get s k hlt']; unfold namB; rw [h2, h3]; rfl)]), rfl⟩
        · go_wp2
          go_ret
          exact ⟨ret_int (by rw [frontN_yes hlt h1, spanN_all namB s.data.toList (fun j hj _ => hall j hj (by simp at hj; omega))]; simp; omega), rfl⟩
    · go_enter Tryd.func19, Tryd.ntmps19
      go_wp2_with (go_at_call 14; refine (ralpha_any _ _).mono ?_; rintro e w' ⟨rfl, rfl⟩)
      go_ret
      exact ⟨ret_int (by rw [frontN_no hlt h1]; rfl), rfl⟩

/-- Whether a text is a name. -/
def nameB (s : ByteArray) : Bool := decide (0 < s.size) && ((frontN s.data.toList : Int) == (s.size : Int))

set_option maxHeartbeats 1000000 in
theorem name_any (s : ByteArray) (w : World) (hs : s.size ≤ 2000) :
    Calls Tryd.prog 20 #[.string s] w fun e w' => e = .returned (.bool (nameB s)) ∧ w' = w := by
  by_cases h0 : s.size = 0
  · have he := empty_of h0
    go_enter Tryd.func20, Tryd.ntmps20
    go_wp2
    go_ret
    exact ⟨ret_bool (by unfold nameB; simp [h0]), rfl⟩
  · have hlt : 0 < s.size := by omega
    have he := nonempty_of hlt
    go_enter Tryd.func20, Tryd.ntmps20
    go_wp2_with (go_at_call 18; refine (front_any _ _ hs).mono ?_; rintro e w' ⟨rfl, rfl⟩)
    go_ret
    exact ⟨ret_bool (by unfold nameB; simp [hlt]), rfl⟩

set_option maxHeartbeats 1000000 in
theorem rname_any (s : ByteArray) (w : World) (hs : s.size ≤ 2000) :
    Calls Tryd.prog 21 #[.string s] w fun e w' => e = .returned (.bool (nameB s)) ∧ w' = w := by
  by_cases h0 : s.size = 0
  · have he := empty_of h0
    go_enter Tryd.func21, Tryd.ntmps21
    go_wp2
    go_ret
    exact ⟨ret_bool (by unfold nameB; simp [h0]), rfl⟩
  · have hlt : 0 < s.size := by omega
    have he := nonempty_of hlt
    go_enter Tryd.func21, Tryd.ntmps21
    go_wp2_with (go_at_call 19; refine (rfront_any _ _ hs).mono ?_; rintro e w' ⟨rfl, rfl⟩)
    go_ret
    exact ⟨ret_bool (by unfold nameB; simp [hlt]), rfl⟩

end Go.Proofs.YtlkeefjbjhmccaaDoor

/-
  Classes of bytes, of the program and of the document.
  Names: Alpha, Front, of the program and of the document.
  Words, plainly: parts, and what a text is read as.
-/
import Derived.Test.YtnamfjbfcbamjaaGreatDoorP01
import Derived.Test.YtnamfjbfcbamjaaGreatDoorP02
import Derived.Test.YtnamfjbfcbamjaaGreatDoorP03
namespace Go.Proofs.YtnamfjbfcbamjaaGreatDoor
open Go.RowKit
def digB (c : Int) : Bool := decide (48 ≤ c) && decide (c ≤ 57)
def blkB (c : Int) : Bool := c == 32 || c == 9
def metB (c : Int) : Bool := c == 32 || c == 9 || c == 10 || c == 124 || c == 38 || c == 59 || c == 60 || c == 62 || c == 40 || c == 41
set_option maxHeartbeats 400000 in
theorem digit_any (c : Int) (w : World) : Calls Tryz.prog 90 #[.int .u8 c] w fun e w' => e = .returned (.bool (digB c)) ∧ w' = w := by
  by_cases h1 : 48 ≤ c
  all_goals by_cases h2 : c ≤ 57
  all_goals
    go_enter Tryz.func90, Tryz.ntmps90
    go_wp2
    go_ret
    exact ⟨ret_bool (by unfold digB; simp [*]), rfl⟩
set_option maxHeartbeats 400000 in
theorem rdigit_any (c : Int) (w : World) : Calls Tryz.prog 44 #[.int .u8 c] w fun e w' => e = .returned (.bool (digB c)) ∧ w' = w := by
  by_cases h1 : 48 ≤ c
  all_goals by_cases h2 : c ≤ 57
  all_goals
    go_enter Tryz.func44, Tryz.ntmps44
    go_wp2
    go_ret
    exact ⟨ret_bool (by unfold digB; simp [*]), rfl⟩
set_option maxRecDepth 20000 in
set_option maxHeartbeats 4000000 in
theorem rmeta_any (c : Int) (w : World) : Calls Tryz.prog 47 #[.int .u8 c] w fun e w' => e = .returned (.bool (metB c)) ∧ w' = w := by
  go_enter Tryz.func47, Tryz.ntmps47
  go_wp2
  all_goals
    go_ret
    exact ⟨ret_bool (by unfold metB; simp [*]), rfl⟩
def amgB (l : List UInt8) (c : Int) : Bool := decide (0 ≤ Lib.indexByte l c.toNat.toUInt8)
set_option maxHeartbeats 400000 in
theorem among1_any (p : Nat) (s : ByteArray) (c : Int) (w : World) (hp : w.cell? ⟨p, 0, none⟩ = some (.string s)) :
    Calls Tryz.prog 112 #[.int .u8 c, .pointer (some ⟨p, 0, none⟩)] w fun e w' => e = .returned (.bool (amgB s.data.toList c)) ∧ w' = w := by
  go_enter Tryz.func112, Tryz.ntmps112
  go_wp2_with (go_at_call 71; refine (Tryz.strings_IndexByte _ _ _).mono ?_; rintro e w' ⟨rfl, rfl⟩)
  go_ret
  exact ⟨rfl, rfl⟩
set_option maxHeartbeats 400000 in
theorem among_any (s : ByteArray) (w : World) :
    Calls Tryz.prog 95 #[.string s] w fun e w' => e = .returned (.func (Fn.func 112) #[] #[.pointer (some ⟨w.heap.size, 0, none⟩)]) ∧ w' = w.alloc (.cells #[.string s] 9) := by
  go_enter Tryz.func95, Tryz.ntmps95
  go_wp2
  go_ret
  exact ⟨rfl, rfl⟩
set_option maxHeartbeats 400000 in
theorem blank_amg (c : Int) (w : World) :
    Calls Tryz.prog 94 #[.int .u8 c] w fun e w' => e = .returned (.bool (amgB [32, 9] c)) ∧ Below w.heap.size w w' := by
  go_enter Tryz.func94, Tryz.ntmps94
  go_wp2_with fail
  refine (among_any _ _).mono ?_
  rintro e w' ⟨rfl, rfl⟩
  go_wp2_with fail
  refine (among1_any _ ⟨#[32, 9]⟩ _ _ (by go_simp)).mono ?_
  rintro e w' ⟨rfl, rfl⟩
  go_wp2
  go_ret
  exact ⟨rfl, (Below.refl _ _).alloc (Nat.le_refl _) _⟩
theorem amg_blank_all : ((List.range 256).all fun n => amgB [32, 9] (n : Int) == blkB (n : Int)) = true := by kernel_rfl
theorem amg_meta_all : ((List.range 256).all fun n => (blkB (n : Int) || amgB [10, 124, 38, 59, 60, 62, 40, 41] (n : Int)) == metB (n : Int)) = true := by kernel_rfl
theorem amg_blank (c : Int) (h0 : 0 ≤ c) (h1 : c ≤ 255) : amgB [32, 9] c = blkB c := by
  obtain ⟨n, rfl⟩ : ∃ n : Nat, c = n := ⟨c.toNat, by omega⟩
  simpa using List.all_eq_true.1 amg_blank_all n (List.mem_range.2 (by omega))
theorem amg_meta (c : Int) (h0 : 0 ≤ c) (h1 : c ≤ 255) : (blkB c || amgB [10, 124, 38, 59, 60, 62, 40, 41] c) = metB c := by
  obtain ⟨n, rfl⟩ : ∃ n : Nat, c = n := ⟨c.toNat, by omega⟩
  exact beq_iff_eq.1 (List.all_eq_true.1 amg_meta_all n (List.mem_range.2 (by omega)))
theorem blank_any (c : Int) (w : World) (h0 : 0 ≤ c) (h1 : c ≤ 255) :
    Calls Tryz.prog 94 #[.int .u8 c] w fun e w' => e = .returned (.bool (blkB c)) ∧ Below w.heap.size w w' := by
  rw [← amg_blank c h0 h1]
  exact blank_amg c w
set_option maxHeartbeats 800000 in
theorem meta_any (c : Int) (w : World) (h0 : 0 ≤ c) (h1 : c ≤ 255) :
    Calls Tryz.prog 80 #[.int .u8 c] w fun e w' => e = .returned (.bool (metB c)) ∧ Below w.heap.size w w' := by
  rcases Bool.eq_false_or_eq_true (amgB [32, 9] c) with hb | hb
  · go_enter Tryz.func80, Tryz.ntmps80
    go_wp2_with fail
    refine (blank_amg _ _).mono ?_
    rintro e w1 ⟨rfl, b1⟩
    go_wp2_with fail
    go_ret
    exact ⟨ret_bool (by rw [← amg_meta c h0 h1, ← amg_blank c h0 h1, hb]; rfl), b1⟩
  · go_enter Tryz.func80, Tryz.ntmps80
    go_wp2_with fail
    refine (blank_amg _ _).mono ?_
    rintro e w1 ⟨rfl, b1⟩
    go_wp2_with fail
    refine (among_any _ _).mono ?_
    rintro e w' ⟨rfl, rfl⟩
    go_wp2_with fail
    refine (among1_any _ ⟨#[10, 124, 38, 59, 60, 62, 40, 41]⟩ _ _ (by go_simp)).mono ?_
    rintro e w' ⟨rfl, rfl⟩
    go_wp2_with fail
    go_ret
    exact ⟨ret_bool (by rw [← amg_meta c h0 h1, ← amg_blank c h0 h1, hb]; rfl), b1.alloc b1.size _⟩
theorem byte_range (c : UInt8) : (0 : Int) ≤ (c.toNat : Int) ∧ (c.toNat : Int) ≤ 255 := by
  have := c.toNat_lt
  omega
end Go.Proofs.YtnamfjbfcbamjaaGreatDoor
namespace Go.Proofs.YtnamfjbfcbamjaaGreatDoor
open Go.RowKit
def spanN (p : Int → Bool) (l : List UInt8) : Nat := (l.takeWhile fun c => p (c.toNat : Int)).length
theorem spanN_le (p : Int → Bool) (l : List UInt8) : spanN p l ≤ l.length := by
  unfold spanN; exact (List.takeWhile_sublist _).length_le
def AllTo (p : Int → Bool) (l : List UInt8) (k : Nat) : Prop := ∀ j (h : j < l.length), j < k → p (l[j].toNat : Int) = true
theorem AllTo.succ {p : Int → Bool} {l : List UInt8} {k : Nat} (h : AllTo p l k) (hk : k < l.length) (e : p (l[k].toNat : Int) = true) : AllTo p l (k + 1) := by
  intro j hj hjk
  by_cases hjk' : j < k
  · exact h j hj hjk'
  · have : j = k := by omega
    subst this; exact e
theorem spanN_cons (p : Int → Bool) (c : UInt8) (l : List UInt8) : spanN p (c :: l) = if p (c.toNat : Int) = true then spanN p l + 1 else 0 := by
  unfold spanN
  rw [List.takeWhile_cons]
  split <;> simp
theorem spanN_stop (p : Int → Bool) : ∀ (l : List UInt8) (k : Nat) (hk : k < l.length), AllTo p l k → p (l[k].toNat : Int) = false → spanN p l = k
  | c :: l, 0, _, _, e => by
    rw [spanN_cons]
    simp at e
    simp [e]
  | c :: l, k + 1, hk, h, e => by
    rw [spanN_cons]
    have h0 : p (c.toNat : Int) = true := h 0 (by simp) (by omega)
    rw [if_pos h0]
    have hk' : k < l.length := by simpa using hk
    have := spanN_stop p l k hk' (fun j hj hjk => by have := h (j + 1) (by simp; omega) (by omega); simpa using this) (by simpa using e)
    omega
theorem spanN_all (p : Int → Bool) : ∀ (l : List UInt8), AllTo p l l.length → spanN p l = l.length
  | [], _ => rfl
  | c :: l, h => by
    rw [spanN_cons]
    have h0 : p (c.toNat : Int) = true := h 0 (by simp) (by simp)
    rw [if_pos h0]
    have := spanN_all p l (fun j hj _ => by have := h (j + 1) (by simp; omega) (by simp; omega); simpa using this)
    simp; omega
def alpB (c : Int) : Bool := (decide (97 ≤ c) && decide (c ≤ 122)) || (decide (65 ≤ c) && decide (c ≤ 90)) || c == 95
set_option maxHeartbeats 1000000 in
theorem alpha_any (c : Int) (w : World) :
    Calls Tryz.prog 104 #[.int .u8 c] w fun e w' => e = .returned (.bool (alpB c)) ∧ w' = w := by
  by_cases h1 : 97 ≤ c
  all_goals by_cases h2 : c ≤ 122
  all_goals by_cases h3 : 65 ≤ c
  all_goals by_cases h4 : c ≤ 90
  all_goals try omega
  all_goals rcases Bool.eq_false_or_eq_true (c == 95) with h5 | h5
  all_goals
    go_enter Tryz.func104, Tryz.ntmps104
    go_wp2
    go_ret
    exact ⟨ret_bool (by unfold alpB; simp [*]), rfl⟩
set_option maxHeartbeats 1000000 in
theorem ralpha_any (c : Int) (w : World) :
    Calls Tryz.prog 63 #[.int .u8 c] w fun e w' => e = .returned (.bool (alpB c)) ∧ w' = w := by
  by_cases h1 : 97 ≤ c
  all_goals by_cases h2 : c ≤ 122
  all_goals by_cases h3 : 65 ≤ c
  all_goals by_cases h4 : c ≤ 90
  all_goals try omega
  all_goals rcases Bool.eq_false_or_eq_true (c == 95) with h5 | h5
  all_goals
    go_enter Tryz.func63, Tryz.ntmps63
    go_wp2
    go_ret
    exact ⟨ret_bool (by unfold alpB; simp [*]), rfl⟩
def namB (c : Int) : Bool := alpB c || digB c
set_option maxHeartbeats 400000 in
theorem front1_any (c : Int) (w : World) :
    Calls Tryz.prog 106 #[.int .u8 c] w fun e w' => e = .returned (.bool (namB c)) ∧ w' = w := by
  rcases Bool.eq_false_or_eq_true (alpB c) with h1 | h1
  all_goals
    go_enter Tryz.func106, Tryz.ntmps106
    go_wp2_with (first | (go_at_call 104; refine (alpha_any _ _).mono ?_; rintro e w' ⟨rfl, rfl⟩) | (go_at_call 90; refine (digit_any _ _).mono ?_; rintro e w' ⟨rfl, rfl⟩))
    go_ret
    exact ⟨ret_bool (by unfold namB; simp [*]), rfl⟩
set_option maxHeartbeats 1000000 in
theorem span_nam (s : ByteArray) (w : World) (hs : s.size ≤ 100000) :
    Calls Tryz.prog 105 #[.string s, .func (Fn.func 106) #[] #[]] w fun e w' => e = .returned (.int .i64 (spanN namB s.data.toList)) ∧ w' = w := by
  go_enter Tryz.func105, Tryz.ntmps105
  go_wp2
  go_loop [8] (fun i => ∃ k : Nat, k ≤ s.size ∧ i = .int .i64 k ∧ AllTo namB s.data.toList k) (fun i => s.size - (intOf i).toNat)
  case atStart => exact ⟨0, Nat.zero_le _, rfl, fun j hj hjk => absurd hjk (by omega)⟩
  case round =>
    obtain ⟨k, hk, rfl, hall⟩ := hrel
    by_cases hlt : k < s.size
    · rcases Bool.eq_false_or_eq_true (namB (s[k].toNat : Int)) with h1 | h1
      · go_wp2_with (go_at_call 106; refine (front1_any _ _).mono ?_; rintro e w' ⟨rfl, rfl⟩)
        go_round
        case rel => exact ⟨k + 1, by omega, by go_num, hall.succ (by simpa using hlt) (by rw [data_get s k hlt]; exact h1)⟩
        case measure => simp [intOf]; omega
      · go_wp2_with (go_at_call 106; refine (front1_any _ _).mono ?_; rintro e w' ⟨rfl, rfl⟩)
        go_ret
        exact ⟨ret_int (by rw [spanN_stop namB s.data.toList k (by simpa using hlt) hall (by rw [data_get s k hlt]; exact h1)]), rfl⟩
    · go_wp2
      go_ret
      exact ⟨ret_int (by rw [spanN_all namB s.data.toList (fun j hj _ => hall j hj (by simp at hj; omega))]; simp), rfl⟩
def frontN : List UInt8 → Nat
  | [] => 0
  | c :: l => if alpB (c.toNat : Int) = true then spanN namB (c :: l) else 0
theorem empty_of {s : ByteArray} (h : s.size = 0) : s.toList.isEmpty = true := by
  rw [ByteArray.toList_eq]
  have : s.data.toList.length = 0 := by simpa using h
  rw [List.eq_nil_of_length_eq_zero this]; rfl
theorem nonempty_of {s : ByteArray} (h : 0 < s.size) : s.toList.isEmpty = false := by
  rw [ByteArray.toList_eq]
  cases hl : s.data.toList with
  | nil => have : s.data.toList.length = 0 := by rw [hl]; rfl
           have : s.size = 0 := by simpa using this
           omega
  | cons _ _ => rfl
theorem frontN_empty {s : ByteArray} (h : s.size = 0) : frontN s.data.toList = 0 := by
  have : s.data.toList.length = 0 := by simpa using h
  rw [List.eq_nil_of_length_eq_zero this]; rfl
theorem frontN_no {s : ByteArray} (h : 0 < s.size) (e : alpB (s[0].toNat : Int) = false) : frontN s.data.toList = 0 := by
  have hg := data_get s 0 h
  cases hl : s.data.toList with
  | nil => rfl
  | cons c l =>
    simp only [hl, List.getElem_cons_zero] at hg
    subst hg
    simp [frontN, e]
theorem frontN_yes {s : ByteArray} (h : 0 < s.size) (e : alpB (s[0].toNat : Int) = true) : frontN s.data.toList = spanN namB s.data.toList := by
  have hg := data_get s 0 h
  cases hl : s.data.toList with
  | nil => rfl
  | cons c l =>
    simp only [hl, List.getElem_cons_zero] at hg
    subst hg
    simp [frontN, e]
set_option maxHeartbeats 1000000 in
theorem front_any (s : ByteArray) (w : World) (hs : s.size ≤ 100000) :
    Calls Tryz.prog 89 #[.string s] w fun e w' => e = .returned (.int .i64 (frontN s.data.toList)) ∧ w' = w := by
  by_cases h0 : s.size = 0
  · have he := empty_of h0
    go_enter Tryz.func89, Tryz.ntmps89
    go_wp2
    go_ret
    exact ⟨ret_int (by rw [frontN_empty h0]; rfl), rfl⟩
  · have hlt : 0 < s.size := by omega
    have he := nonempty_of hlt
    rcases Bool.eq_false_or_eq_true (alpB (s[0].toNat : Int)) with h1 | h1
    · go_enter Tryz.func89, Tryz.ntmps89
      go_wp2_with (first | (go_at_call 104; refine (alpha_any _ _).mono ?_; rintro e w' ⟨rfl, rfl⟩) | (go_at_call 105; refine (span_nam _ _ hs).mono ?_; rintro e w' ⟨rfl, rfl⟩))
      go_ret
      exact ⟨ret_int (by rw [frontN_yes hlt h1]), rfl⟩
    · go_enter Tryz.func89, Tryz.ntmps89
      go_wp2_with (go_at_call 104; refine (alpha_any _ _).mono ?_; rintro e w' ⟨rfl, rfl⟩)
      go_ret
      exact ⟨ret_int (by rw [frontN_no hlt h1]; rfl), rfl⟩
set_option maxHeartbeats 1000000 in
theorem rfront_any (s : ByteArray) (w : World) (hs : s.size ≤ 100000) :
    Calls Tryz.prog 43 #[.string s] w fun e w' => e = .returned (.int .i64 (frontN s.data.toList)) ∧ w' = w := by
  by_cases h0 : s.size = 0
  · have he := empty_of h0
    go_enter Tryz.func43, Tryz.ntmps43
    go_wp2
    go_ret
    exact ⟨ret_int (by rw [frontN_empty h0]; rfl), rfl⟩
  · have hlt : 0 < s.size := by omega
    have he := nonempty_of hlt
    rcases Bool.eq_false_or_eq_true (alpB (s[0].toNat : Int)) with h1 | h1
    · have hst : AllTo namB s.data.toList 1 := fun j hj hj1 => by
        have : j = 0 := by omega
        subst this
        rw [data_get s 0 hlt]; unfold namB; rw [h1]; rfl
      go_enter Tryz.func43, Tryz.ntmps43
      go_wp2_with (go_at_call 63; refine (ralpha_any _ _).mono ?_; rintro e w' ⟨rfl, rfl⟩)
      go_loop [3] (fun i => ∃ k : Nat, k ≤ s.size ∧ i = .int .i64 k ∧ AllTo namB s.data.toList k) (fun i => s.size - (intOf i).toNat)
      case atStart => exact ⟨1, by omega, rfl, hst⟩
      case round =>
        obtain ⟨k, hk, rfl, hall⟩ := hrel
        by_cases hlt' : k < s.size
        · rcases Bool.eq_false_or_eq_true (alpB (s[k].toNat : Int)) with h2 | h2
          · go_wp2_with (first | (go_at_call 63; refine (ralpha_any _ _).mono ?_; rintro e w' ⟨rfl, rfl⟩) | (go_at_call 44; refine (rdigit_any _ _).mono ?_; rintro e w' ⟨rfl, rfl⟩))
            go_round
            case rel => exact ⟨k + 1, by omega, by go_num, hall.succ (by simpa using hlt') (by rw [data_get s k hlt']; unfold namB; rw [h2]; rfl)⟩
            case measure => simp [intOf]; omega
          · rcases Bool.eq_false_or_eq_true (digB (s[k].toNat : Int)) with h3 | h3
            · go_wp2_with (first | (go_at_call 63; refine (ralpha_any _ _).mono ?_; rintro e w' ⟨rfl, rfl⟩) | (go_at_call 44; refine (rdigit_any _ _).mono ?_; rintro e w' ⟨rfl, rfl⟩))
              go_round
              case rel => exact ⟨k + 1, by omega, by go_num, hall.succ (by simpa using hlt') (by rw [data_get s k hlt']; unfold namB; rw [h2, h3]; rfl)⟩
              case measure => simp [intOf]; omega
            · go_wp2_with (first | (go_at_call 63; refine (ralpha_any _ _).mono ?_; rintro e w' ⟨rfl, rfl⟩) | (go_at_call 44; refine (rdigit_any _ _).mono ?_; rintro e w' ⟨rfl, rfl⟩))
              go_ret
              exact ⟨ret_int (by rw [frontN_yes hlt h1, spanN_stop namB s.data.toList k (by simpa using hlt') hall (by rw [data_get s k hlt']; unfold namB; rw [h2, h3]; rfl)]), rfl⟩
        · go_wp2
          go_ret
          exact ⟨ret_int (by rw [frontN_yes hlt h1, spanN_all namB s.data.toList (fun j hj _ => hall j hj (by simp at hj; omega))]; simp; omega), rfl⟩
    · go_enter Tryz.func43, Tryz.ntmps43
      go_wp2_with (go_at_call 63; refine (ralpha_any _ _).mono ?_; rintro e w' ⟨rfl, rfl⟩)
      go_ret
      exact ⟨ret_int (by rw [frontN_no hlt h1]; rfl), rfl⟩
end Go.Proofs.YtnamfjbfcbamjaaGreatDoor
namespace Go.Proofs.YtnamfjbfcbamjaaGreatDoor
inductive Prt where
  | mk (kind : Int) (text : List UInt8) (quote : Bool) (op : Int) (colon : Bool) (sub : List Prt) : Prt
def Prt.kind : Prt → Int
  | .mk k _ _ _ _ _ => k
def Prt.text : Prt → List UInt8
  | .mk _ t _ _ _ _ => t
def Prt.quote : Prt → Bool
  | .mk _ _ q _ _ _ => q
def Prt.op : Prt → Int
  | .mk _ _ _ o _ _ => o
def Prt.colon : Prt → Bool
  | .mk _ _ _ _ c _ => c
def Prt.sub : Prt → List Prt
  | .mk _ _ _ _ _ s => s
mutual
def sameP : Prt → Prt → Bool
  | .mk k t q o c s, .mk k' t' q' o' c' s' => k == k' && t == t' && q == q' && o == o' && c == c' && sameW s s'
def sameW : List Prt → List Prt → Bool
  | [], [] => true
  | a :: r, b :: r' => sameP a b && sameW r r'
  | [], _ :: _ => false
  | _ :: _, [] => false
end
theorem sameP_mk (k t q o c s k' t' q' o' c' s') : sameP (.mk k t q o c s) (.mk k' t' q' o' c' s') = (k == k' && t == t' && q == q' && o == o' && c == c' && sameW s s') := by rw [sameP]
theorem sameW_cons (a b : Prt) (r r' : List Prt) : sameW (a :: r) (b :: r') = (sameP a b && sameW r r') := by rw [sameW]
theorem sameW_nil : sameW [] [] = true := by rw [sameW]
mutual
theorem sameP_eq : ∀ a b : Prt, sameP a b = true → a = b
  | .mk k t q o c s, .mk k' t' q' o' c' s', h => by
    rw [sameP_mk] at h
    simp only [Bool.and_eq_true, beq_iff_eq] at h
    obtain ⟨⟨⟨⟨⟨h1, h2⟩, h3⟩, h4⟩, h5⟩, h6⟩ := h
    rw [h1, h2, h3, h4, h5, sameW_eq s s' h6]
theorem sameW_eq : ∀ a b : List Prt, sameW a b = true → a = b
  | [], [], _ => rfl
  | a :: r, b :: r', h => by
    rw [sameW_cons] at h
    simp only [Bool.and_eq_true] at h
    rw [sameP_eq a b h.1, sameW_eq r r' h.2]
  | [], _ :: _, h => by rw [sameW] at h; cases h
  | _ :: _, [], h => by rw [sameW] at h; cases h
end
mutual
theorem sameP_refl : ∀ a : Prt, sameP a a = true
  | .mk k t q o c s => by
    rw [sameP_mk, sameW_refl s]
    simp
theorem sameW_refl : ∀ a : List Prt, sameW a a = true
  | [] => sameW_nil
  | a :: r => by rw [sameW_cons, sameP_refl a, sameW_refl r]; rfl
end
theorem sameW_ne {a b : List Prt} (h : sameW a b = false) : a ≠ b := by
  intro e
  rw [e, sameW_refl] at h
  cases h
theorem sameW_len : ∀ {a b : List Prt}, a.length ≠ b.length → sameW a b = false
  | [], [], h => absurd rfl h
  | [], _ :: _, _ => by rw [sameW]
  | _ :: _, [], _ => by rw [sameW]
  | a :: r, b :: r', h => by
    rw [sameW_cons, sameW_len (a := r) (b := r') (by intro e; exact h (by simp [e]))]
    simp
def litP (t : List UInt8) (q : Bool) : Prt := .mk 1 t q 0 false []
def addP (ps : List Prt) (p : Prt) : List Prt :=
  match ps.getLast? with
  | none => [p]
  | some (.mk k t q o c s) => if k = 1 ∧ p.kind = 1 ∧ q = p.quote then ps.dropLast ++ [.mk k (t ++ p.text) q o c s] else ps ++ [p]
theorem addP_nil (p : Prt) : addP [] p = [p] := rfl
theorem addP_snoc (ps : List Prt) (k t q o c s) (p : Prt) : addP (ps ++ [.mk k t q o c s]) p = if k = 1 ∧ p.kind = 1 ∧ q = p.quote then ps ++ [.mk k (t ++ p.text) q o c s] else ps ++ [.mk k t q o c s, p] := by
  unfold addP
  simp
def allW (w : Nat) : Bool := w == 2 || w == 3 || w == 5
def sngW (w : Nat) : Bool := w == 0 || w == 1
def flagW (b : Bool) (w : Nat) (c : UInt8) : Bool := !sngW w && !(c == 34 && (w == 3 || w == 4 || (w == 2 && !b)))
def escW (w : Nat) (c : UInt8) : Bool := c == 36 || c == 92 || c == 96 || (c == 34 && w != 5) || (c == 125 && w == 3)
def withinW (w : Nat) (op : Int) : Nat := if sngW w then 1 else if 6 ≤ op then 4 else 3
def speB (c : UInt8) : Bool := c == 64 || c == 42 || c == 35 || c == 63
def parN (l : List UInt8) : Nat :=
  if 0 < frontN l then frontN l else match l with
  | [] => 0
  | c :: _ => if speB c then 1 else if 3 < spanN digB l ∨ (1 < spanN digB l ∧ c = 48) then 0 else spanN digB l
def nmdN (l : List UInt8) : Nat :=
  if 0 < frontN l then frontN l else match l with
  | [] => 0
  | c :: _ => if digB (c.toNat : Int) || speB c then 1 else 0
def sgnL : Bool → List UInt8 → Option (Int × List UInt8)
  | _, 45 :: r => some (2, r)
  | _, 61 :: r => some (3, r)
  | _, 63 :: r => some (4, r)
  | _, 43 :: r => some (5, r)
  | false, 35 :: 35 :: r => some (7, r)
  | false, 35 :: r => some (6, r)
  | false, 37 :: 37 :: r => some (9, r)
  | false, 37 :: r => some (8, r)
  | _, _ => none
def pairL (w : Nat) (u : List UInt8) : List Prt :=
  if u = [10] then [] else if u = [] then [litP [92] true] else if allW w && !(u.all (escW w)) then [litP (92 :: u) true] else [litP u true]
def okNil : Rs → Bool
  | .ok [] => true
  | .ok (_ :: _) => false
  | .err _ _ => false
def brkB (l : List UInt8) : Bool := (l.head? == some 40) && okNil (thg (3 * (l.length + 1) + 3) (36 :: l) 0 0)
def runP (l : List UInt8) : Prt := if brkB l then .mk 4 ((l.drop 1).dropLast) false 0 false [] else .mk 3 l false 0 false []
def setQ (q : Bool) : Prt → Prt
  | .mk k t _ o c s => .mk k t q o c s
inductive Rd where
  | ok (ps : List Prt)
  | err (e : Int)
inductive Th where
  | ok (ps : List Prt) (r : List UInt8)
  | err (e : Int)
def Rd.word : Rd → Rd
  | .ok ps => .ok (ps.foldl addP [])
  | .err e => .err e
def colonL (l : List UInt8) : Bool := l.head? == some 58
def behindL (l : List UInt8) : List UInt8 := if colonL l then l.drop 1 else l
inductive Bd where
  | ok (p : Prt)
  | err (e : Int)
def brcL (rd : Nat → List UInt8 → Rd) (w : Nat) (l : List UInt8) : Bd :=
  if l.head? = some 35 ∧ l.drop 1 ≠ [] ∧ parN (l.drop 1) = (l.drop 1).length then .ok (.mk 2 (l.drop 1) false 1 false [])
  else if parN l = 0 then .err 10
  else if parN l = l.length then .ok (.mk 2 l false 0 false [])
  else match sgnL (colonL (l.drop (parN l))) (behindL (l.drop (parN l))) with
    | none => .err 10
    | some (op, t) => match (rd (withinW w op) t).word with
      | .err e => .err e
      | .ok ps => .ok (.mk 2 (l.take (parN l)) false op (colonL (l.drop (parN l))) ps)
def lngL (rd : Nat → List UInt8 → Rd) (w : Nat) (u : List UInt8) : Bd := if u.head? = some 40 then .ok (runP (u.drop 1).dropLast) else brcL rd w (u.drop 1).dropLast
def thnL (rd : Nat → List UInt8 → Rd) (w : Nat) (c : UInt8) (u rest : List UInt8) : Th :=
  if c = 92 then .ok (pairL w u) rest
  else if c = 39 ∧ u ≠ [] then .ok [litP u.dropLast true] rest
  else if c = 34 ∧ u ≠ [] then match (rd 2 u.dropLast).word with
    | .err e => .err e
    | .ok ps => .ok (if ps.isEmpty then [litP [] true] else ps) rest
  else if c = 36 ∧ u = [] then (if nmdN rest = 0 then .ok [litP [36] true] rest else .ok [.mk 2 (rest.take (nmdN rest)) (allW w) 0 false []] (rest.drop (nmdN rest)))
  else if c = 36 then match lngL rd w u with
    | .err e => .err e
    | .ok p => .ok [setQ (allW w) p] rest
  else if w = 0 ∧ metB (c.toNat : Int) = true then .err 10
  else .ok [litP [c] (allW w)] rest
def thiL (b : Bool) (rd : Nat → List UInt8 → Rd) (w : Nat) (c : UInt8) (r : List UInt8) : Th :=
  match thg (3 * (r.length + 1) + 3) (c :: r) (if flagW b w c then 1 else 0) 0 with
  | .err e _ => .err e
  | .ok rest => thnL rd w c (r.take (r.length - rest.length)) rest
def rdL (b : Bool) : Nat → Nat → List UInt8 → Rd
  | 0, _, _ => .ok []
  | _ + 1, _, [] => .ok []
  | f + 1, w, c :: r => match thiL b (rdL b f) w c r with
    | .err e => .err e
    | .ok ps rest => match rdL b f w rest with
      | .err e => .err e
      | .ok qs => .ok (ps ++ qs)
def wrdL (b : Bool) (w : Nat) (l : List UInt8) : Rd := if 4096 < l.length then .err 3 else (rdL b (l.length + 1) w l).word
def Rd.parts : Rd → List Prt
  | .ok ps => ps
  | .err _ => []
def Rd.errno : Rd → Int
  | .ok _ => 0
  | .err e => e
end Go.Proofs.YtnamfjbfcbamjaaGreatDoor

/-
  The walk of GlobCuts.
-/
import Derived.Test.YtegaonlpbcpobaaAwake
import Derived.Test.YtegaonlpbcpobaaJoins
namespace Go.Proofs.Ytegaonlpbcpobaa
open Go.RowKit

theorem tab_pre (s : ByteArray) (ts : List Tok) (k : Nat) (h : k ≤ s.size) : tabF s ts k = matchB (preS s k) ts := by
  rw [Bool.eq_iff_iff, tabF_iff s ts k h, matchB_iff, bs_pre s k h]
theorem front_cases (s : ByteArray) (ts : List Tok) :
    (frontI s ts false = -1 ∧ frontI s ts true = -1 ∧ matchB s ts = false) ∨
    ∃ a b : Nat, a ≤ b ∧ b ≤ s.size ∧ frontI s ts false = a ∧ frontI s ts true = b ∧ matchB (preS s a) ts = true ∧ matchB (preS s b) ts = true ∧ matchB s ts = decide (b = s.size) := by
  by_cases hF : (List.range (s.size + 1)).filter (tabF s ts) = []
  · have h2 : frontI s ts true = -1 := by unfold frontI; rw [hF]; rfl
    refine .inl ⟨by unfold frontI; rw [hF]; rfl, h2, ?_⟩
    unfold matchB
    rw [h2, beq_eq_false_iff_ne]
    omega
  · obtain ⟨a, ha, ea⟩ := firstI_mem hF
    obtain ⟨b, hb, eb⟩ := lastI_mem hF
    have hle := first_le_last (f := tabF s ts) (s.size + 1)
    rw [ea, eb] at hle
    obtain ⟨ha1, ha2⟩ := List.mem_filter.1 ha
    obtain ⟨hb1, hb2⟩ := List.mem_filter.1 hb
    rw [List.mem_range] at ha1 hb1
    have h2 : frontI s ts true = b := by unfold frontI; exact eb
    refine .inr ⟨a, b, by omega, by omega, by unfold frontI; exact ea, h2, ?_, ?_, ?_⟩
    · rw [← tab_pre s ts a (by omega)]; exact ha2
    · rw [← tab_pre s ts b (by omega)]; exact hb2
    · unfold matchB
      rw [h2, Bool.eq_iff_iff, beq_iff_eq, decide_eq_true_iff]
      omega
theorem bs_rev (s : ByteArray) : bs (revS s) = (bs s).reverse := by
  apply List.ext_getElem
  · rw [List.length_reverse, bs_len, bs_len, revS_size]
  · intro j h1 h2
    have hj : j < s.size := by rw [List.length_reverse, bs_len] at h2; exact h2
    have hj' : j < (revS s).size := by rw [revS_size]; exact hj
    rw [bs_get _ j hj', List.getElem_reverse]
    have e := bs_get s (s.size - 1 - j) (by omega)
    simp only [bs_len]
    rw [e]
    unfold sb revS
    simp
    rw [List.getElem?_reverse (by simpa using hj)]
    simp
theorem match_rev (s : ByteArray) (ts : List Tok) : matchB (revS s) ts.reverse = matchB s ts := by
  rw [Bool.eq_iff_iff, matchB_iff, matchB_iff, bs_rev, fits_rev]
theorem match_pre_rev (s : ByteArray) (ts : List Tok) (c : Nat) (h : c ≤ s.size) : matchB (preS (revS s) c) ts.reverse = matchB (sufS s (s.size - c)) ts := by
  rw [Bool.eq_iff_iff, matchB_iff, matchB_iff, bs_pre _ _ (by rw [revS_size]; exact h), bs_suf _ _ (by omega), bs_rev, List.take_reverse, bs_len, fits_rev]
theorem back_cases (s : ByteArray) (ts : List Tok) :
    (backI s ts false = -1 ∧ backI s ts true = -1 ∧ matchB s ts = false) ∨
    ∃ c d : Nat, c ≤ d ∧ d ≤ s.size ∧ backI s ts false = c ∧ backI s ts true = d ∧ matchB (sufS s (s.size - c)) ts = true ∧ matchB (sufS s (s.size - d)) ts = true ∧ matchB s ts = decide (d = s.size) := by
  rcases front_cases (revS s) ts.reverse with ⟨h1, h2, h3⟩ | ⟨c, d, h1, h2, h3, h4, h5, h6, h7⟩
  · rw [match_rev] at h3
    exact .inl ⟨h1, h2, h3⟩
  · rw [revS_size] at h2 h7
    rw [match_rev] at h7
    rw [match_pre_rev s ts c (by omega)] at h5
    rw [match_pre_rev s ts d h2] at h6
    exact .inr ⟨c, d, h1, h2, h3, h4, h5, h6, h7⟩

set_option maxHeartbeats 4000000 in
theorem cuts_000 (v : Value) (s : ByteArray) (ts : List Tok) (w : World) (ht : TR w v ts) (hf : fewB ts = true) (hs : s.size ≤ 100)
    (h1 : frontI s ts false = -1) (h2 : frontI s ts true = -1) (h3 : backI s ts false = -1) (h4 : backI s ts true = -1) (h5 : matchB s ts = false) :
    Calls Try.prog 8 #[v, .string s] w fun e w' => e = .returned (.bool true) ∧ Below w.heap.size w w' := by
  have hl := (fewB_spec hf).1
  have HT := hide ht
  have HB : Hid (Below w.heap.size w w) := hide (Below.refl _ _)
  obtain ⟨aa, ca, rfl, _⟩ := TokRow.shape ht
  have hd100 : decide ((100 : Int) < (s.size : Int)) = false := by simp; omega
  have n1 : ((-1) == (s.size : Int)) = false := by rw [beq_eq_false_iff_ne]; omega
  clear ht
  go_enter Try.func8, Try.ntmps8
  go_wp2_with fail
  refine (few_any w.heap.size _ ts _ (unhide HT)).mono ?_
  rintro e x1 ⟨rfl, hx1⟩
  have hx2 := hx1.symm
  subst hx2
  clear hx1
  rw [hf]
  go_wp2_with fail
  refine (fr s ts false (-1) _ _ (by omega) (unhide HT) h1).mono ?_
  rintro e y1 ⟨rfl, b0⟩
  have HT := hide ((unhide HT).next b0)
  have HB := hide ((unhide HB).trans (b0.mono (unhide HB).size))
  clear b0
  go_wp2_with fail
  refine (fr s ts true (-1) _ _ (by omega) (unhide HT) h2).mono ?_
  rintro e y2 ⟨rfl, b0⟩
  have HT := hide ((unhide HT).next b0)
  have HB := hide ((unhide HB).trans (b0.mono (unhide HB).size))
  clear b0
  go_wp2_with fail
  refine (bk s ts false (-1) _ _ (by omega) (by omega) (unhide HT) h3).mono ?_
  rintro e y3 ⟨rfl, b0⟩
  have HT := hide ((unhide HT).next b0)
  have HB := hide ((unhide HB).trans (b0.mono (unhide HB).size))
  clear b0
  go_wp2_with fail
  refine (bk s ts true (-1) _ _ (by omega) (by omega) (unhide HT) h4).mono ?_
  rintro e y4 ⟨rfl, b0⟩
  have HT := hide ((unhide HT).next b0)
  have HB := hide ((unhide HB).trans (b0.mono (unhide HB).size))
  clear b0
  go_wp2_with fail
  refine (mt s ts false _ _ (by omega) (unhide HT) h5).mono ?_
  rintro e y5 ⟨rfl, b0⟩
  have HT := hide ((unhide HT).next b0)
  have HB := hide ((unhide HB).trans (b0.mono (unhide HB).size))
  clear b0
  go_wp2_with fail
  refine (mt s ts false _ _ (by omega) (unhide HT) h5).mono ?_
  rintro e y6 ⟨rfl, b0⟩
  have HT := hide ((unhide HT).next b0)
  have HB := hide ((unhide HB).trans (b0.mono (unhide HB).size))
  clear b0
  go_wp2_with fail
  refine (awake_any _).mono ?_
  rintro e z ⟨rfl, b0⟩
  go_wp2_with fail
  go_ret
  exact ⟨rfl, (unhide HB).trans (b0.mono (unhide HB).size)⟩

set_option maxHeartbeats 4000000 in
theorem cuts_010 (v : Value) (s : ByteArray) (ts : List Tok) (w : World) (ht : TR w v ts) (hf : fewB ts = true) (hs : s.size ≤ 100)
    (h1 : frontI s ts false = -1) (h2 : frontI s ts true = -1) (c d : Nat) (q3 : c ≤ d) (q4 : d ≤ s.size) (h3 : backI s ts false = c) (h4 : backI s ts true = d) (m3 : matchB (sufS s (s.size - c)) ts = true) (m4 : matchB (sufS s (s.size - d)) ts = true) (h5 : matchB s ts = false) (e2 : d ≠ s.size) :
    Calls Try.prog 8 #[v, .string s] w fun e w' => e = .returned (.bool true) ∧ Below w.heap.size w w' := by
  have hl := (fewB_spec hf).1
  have HT := hide ht
  have HB : Hid (Below w.heap.size w w) := hide (Below.refl _ _)
  obtain ⟨aa, ca, rfl, _⟩ := TokRow.shape ht
  have hd100 : decide ((100 : Int) < (s.size : Int)) = false := by simp; omega
  have j1 : ¬ (c : Int) < -1 := by omega
  have j2 : ¬ (s.size : Int) < (d : Int) := by omega
  have j3 : ¬ (d : Int) < (c : Int) := by omega
  have j4 : (0 : Int) ≤ (c : Int) := by omega
  have j5 : ¬ (c : Int) < 0 := by omega
  have j6 : ¬ (d : Int) < 0 := by omega
  have k1 : decide ((c : Int) < -1) = false := by rw [decide_eq_false_iff_not]; omega
  have k2 : decide ((s.size : Int) < (d : Int)) = false := by rw [decide_eq_false_iff_not]; omega
  have k3 : decide ((d : Int) < (c : Int)) = false := by rw [decide_eq_false_iff_not]; omega
  have k5 : decide ((c : Int) < 0) = false := by rw [decide_eq_false_iff_not]; omega
  have k6 : decide ((d : Int) < 0) = false := by rw [decide_eq_false_iff_not]; omega
  have k7 : decide ((s.size : Int) < -1) = false := by rw [decide_eq_false_iff_not]; omega
  obtain ⟨c1, hc1⟩ : ∃ x : Nat, (s.size : Int) - (c : Int) = (x : Int) := ⟨s.size - c, by omega⟩
  obtain ⟨d1, hd1⟩ : ∃ x : Nat, (s.size : Int) - (d : Int) = (x : Int) := ⟨s.size - d, by omega⟩
  have ec : s.size - c = c1 := by omega
  have ed : s.size - d = d1 := by omega
  rw [ec] at m3
  rw [ed] at m4
  have j7 : c1 ≤ s.size := by omega
  have j8 : d1 ≤ s.size := by omega
  clear ec ed
  have n1 : ((-1) == (s.size : Int)) = false := by rw [beq_eq_false_iff_ne]; omega
  have n2 : ((d : Int) == (s.size : Int)) = false := by rw [beq_eq_false_iff_ne]; omega
  clear ht
  go_enter Try.func8, Try.ntmps8
  go_wp2_with fail
  refine (few_any w.heap.size _ ts _ (unhide HT)).mono ?_
  rintro e x1 ⟨rfl, hx1⟩
  have hx2 := hx1.symm
  subst hx2
  clear hx1
  rw [hf]
  go_wp2_with fail
  refine (fr s ts false (-1) _ _ (by omega) (unhide HT) h1).mono ?_
  rintro e y1 ⟨rfl, b0⟩
  have HT := hide ((unhide HT).next b0)
  have HB := hide ((unhide HB).trans (b0.mono (unhide HB).size))
  clear b0
  go_wp2_with fail
  refine (fr s ts true (-1) _ _ (by omega) (unhide HT) h2).mono ?_
  rintro e y2 ⟨rfl, b0⟩
  have HT := hide ((unhide HT).next b0)
  have HB := hide ((unhide HB).trans (b0.mono (unhide HB).size))
  clear b0
  go_wp2_with fail
  refine (bk s ts false (c : Int) _ _ (by omega) (by omega) (unhide HT) h3).mono ?_
  rintro e y3 ⟨rfl, b0⟩
  have HT := hide ((unhide HT).next b0)
  have HB := hide ((unhide HB).trans (b0.mono (unhide HB).size))
  clear b0
  go_wp2_with fail
  refine (bk s ts true (d : Int) _ _ (by omega) (by omega) (unhide HT) h4).mono ?_
  rintro e y4 ⟨rfl, b0⟩
  have HT := hide ((unhide HT).next b0)
  have HB := hide ((unhide HB).trans (b0.mono (unhide HB).size))
  clear b0
  go_wp2_with fail
  refine (mt (sufS s c1) ts true _ _ (by unfold sufS; rw [extract_size s c1 s.size (Nat.le_refl _)]; omega) (unhide HT) m3).mono ?_
  rintro e y5 ⟨rfl, b0⟩
  have HT := hide ((unhide HT).next b0)
  have HB := hide ((unhide HB).trans (b0.mono (unhide HB).size))
  clear b0
  go_wp2_with fail
  refine (mt (sufS s d1) ts true _ _ (by unfold sufS; rw [extract_size s d1 s.size (Nat.le_refl _)]; omega) (unhide HT) m4).mono ?_
  rintro e y6 ⟨rfl, b0⟩
  have HT := hide ((unhide HT).next b0)
  have HB := hide ((unhide HB).trans (b0.mono (unhide HB).size))
  clear b0
  go_wp2_with fail
  refine (mt s ts false _ _ (by omega) (unhide HT) h5).mono ?_
  rintro e y7 ⟨rfl, b0⟩
  have HT := hide ((unhide HT).next b0)
  have HB := hide ((unhide HB).trans (b0.mono (unhide HB).size))
  clear b0
  go_wp2_with fail
  refine (mt s ts false _ _ (by omega) (unhide HT) h5).mono ?_
  rintro e y8 ⟨rfl, b0⟩
  have HT := hide ((unhide HT).next b0)
  have HB := hide ((unhide HB).trans (b0.mono (unhide HB).size))
  clear b0
  go_wp2_with fail
  refine (awake_any _).mono ?_
  rintro e z ⟨rfl, b0⟩
  go_wp2_with fail
  go_ret
  exact ⟨rfl, (unhide HB).trans (b0.mono (unhide HB).size)⟩

set_option maxHeartbeats 4000000 in
theorem cuts_100 (v : Value) (s : ByteArray) (ts : List Tok) (w : World) (ht : TR w v ts) (hf : fewB ts = true) (hs : s.size ≤ 100)
    (a b : Nat) (q1 : a ≤ b) (q2 : b ≤ s.size) (h1 : frontI s ts false = a) (h2 : frontI s ts true = b) (m1 : matchB (preS s a) ts = true) (m2 : matchB (preS s b) ts = true) (h3 : backI s ts false = -1) (h4 : backI s ts true = -1) (h5 : matchB s ts = false) (e1 : b ≠ s.size) :
    Calls Try.prog 8 #[v, .string s] w fun e w' => e = .returned (.bool true) ∧ Below w.heap.size w w' := by
  have hl := (fewB_spec hf).1
  have HT := hide ht
  have HB : Hid (Below w.heap.size w w) := hide (Below.refl _ _)
  obtain ⟨aa, ca, rfl, _⟩ := TokRow.shape ht
  have hd100 : decide ((100 : Int) < (s.size : Int)) = false := by simp; omega
  have i1 : ¬ (a : Int) < -1 := by omega
  have i2 : ¬ (s.size : Int) < (b : Int) := by omega
  have i3 : ¬ (b : Int) < (a : Int) := by omega
  have i4 : (0 : Int) ≤ (a : Int) := by omega
  have i5 : ¬ (a : Int) < 0 := by omega
  have i6 : ¬ (b : Int) < 0 := by omega
  have i7 : a ≤ s.size := by omega
  have n1 : ((b : Int) == (s.size : Int)) = false := by rw [beq_eq_false_iff_ne]; omega
  have n2 : ((-1) == (s.size : Int)) = false := by rw [beq_eq_false_iff_ne]; omega
  clear ht
  go_enter Try.func8, Try.ntmps8
  go_wp2_with fail
  refine (few_any w.heap.size _ ts _ (unhide HT)).mono ?_
  rintro e x1 ⟨rfl, hx1⟩
  have hx2 := hx1.symm
  subst hx2
  clear hx1
  rw [hf]
  go_wp2_with fail
  refine (fr s ts false (a : Int) _ _ (by omega) (unhide HT) h1).mono ?_
  rintro e y1 ⟨rfl, b0⟩
  have HT := hide ((unhide HT).next b0)
  have HB := hide ((unhide HB).trans (b0.mono (unhide HB).size))
  clear b0
  go_wp2_with fail
  refine (fr s ts true (b : Int) _ _ (by omega) (unhide HT) h2).mono ?_
  rintro e y2 ⟨rfl, b0⟩
  have HT := hide ((unhide HT).next b0)
  have HB := hide ((unhide HB).trans (b0.mono (unhide HB).size))
  clear b0
  go_wp2_with fail
  refine (bk s ts false (-1) _ _ (by omega) (by omega) (unhide HT) h3).mono ?_
  rintro e y3 ⟨rfl, b0⟩
  have HT := hide ((unhide HT).next b0)
  have HB := hide ((unhide HB).trans (b0.mono (unhide HB).size))
  clear b0
  go_wp2_with fail
  refine (bk s ts true (-1) _ _ (by omega) (by omega) (unhide HT) h4).mono ?_
  rintro e y4 ⟨rfl, b0⟩
  have HT := hide ((unhide HT).next b0)
  have HB := hide ((unhide HB).trans (b0.mono (unhide HB).size))
  clear b0
  go_wp2_with fail
  refine (mt (preS s a) ts true _ _ (by unfold preS; rw [extract_size s 0 a (by omega)]; omega) (unhide HT) m1).mono ?_
  rintro e y5 ⟨rfl, b0⟩
  have HT := hide ((unhide HT).next b0)
  have HB := hide ((unhide HB).trans (b0.mono (unhide HB).size))
  clear b0
  go_wp2_with fail
  refine (mt (preS s b) ts true _ _ (by unfold preS; rw [extract_size s 0 b (by omega)]; omega) (unhide HT) m2).mono ?_
  rintro e y6 ⟨rfl, b0⟩
  have HT := hide ((unhide HT).next b0)
  have HB := hide ((unhide HB).trans (b0.mono (unhide HB).size))
  clear b0
  go_wp2_with fail
  refine (mt s ts false _ _ (by omega) (unhide HT) h5).mono ?_
  rintro e y7 ⟨rfl, b0⟩
  have HT := hide ((unhide HT).next b0)
  have HB := hide ((unhide HB).trans (b0.mono (unhide HB).size))
  clear b0
  go_wp2_with fail
  refine (mt s ts false _ _ (by omega) (unhide HT) h5).mono ?_
  rintro e y8 ⟨rfl, b0⟩
  have HT := hide ((unhide HT).next b0)
  have HB := hide ((unhide HB).trans (b0.mono (unhide HB).size))
  clear b0
  go_wp2_with fail
  refine (awake_any _).mono ?_
  rintro e z ⟨rfl, b0⟩
  go_wp2_with fail
  go_ret
  exact ⟨rfl, (unhide HB).trans (b0.mono (unhide HB).size)⟩

set_option maxHeartbeats 4000000 in
theorem cuts_110 (v : Value) (s : ByteArray) (ts : List Tok) (w : World) (ht : TR w v ts) (hf : fewB ts = true) (hs : s.size ≤ 100)
    (a b : Nat) (q1 : a ≤ b) (q2 : b ≤ s.size) (h1 : frontI s ts false = a) (h2 : frontI s ts true = b) (m1 : matchB (preS s a) ts = true) (m2 : matchB (preS s b) ts = true) (c d : Nat) (q3 : c ≤ d) (q4 : d ≤ s.size) (h3 : backI s ts false = c) (h4 : backI s ts true = d) (m3 : matchB (sufS s (s.size - c)) ts = true) (m4 : matchB (sufS s (s.size - d)) ts = true) (h5 : matchB s ts = false) (e1 : b ≠ s.size) (e2 : d ≠ s.size) :
    Calls Try.prog 8 #[v, .string s] w fun e w' => e = .returned (.bool true) ∧ Below w.heap.size w w' := by
  have hl := (fewB_spec hf).1
  have HT := hide ht
  have HB : Hid (Below w.heap.size w w) := hide (Below.refl _ _)
  obtain ⟨aa, ca, rfl, _⟩ := TokRow.shape ht
  have hd100 : decide ((100 : Int) < (s.size : Int)) = false := by simp; omega
  have i1 : ¬ (a : Int) < -1 := by omega
  have i2 : ¬ (s.size : Int) < (b : Int) := by omega
  have i3 : ¬ (b : Int) < (a : Int) := by omega
  have i4 : (0 : Int) ≤ (a : Int) := by omega
  have i5 : ¬ (a : Int) < 0 := by omega
  have i6 : ¬ (b : Int) < 0 := by omega
  have i7 : a ≤ s.size := by omega
  have j1 : ¬ (c : Int) < -1 := by omega
  have j2 : ¬ (s.size : Int) < (d : Int) := by omega
  have j3 : ¬ (d : Int) < (c : Int) := by omega
  have j4 : (0 : Int) ≤ (c : Int) := by omega
  have j5 : ¬ (c : Int) < 0 := by omega
  have j6 : ¬ (d : Int) < 0 := by omega
  have k1 : decide ((c : Int) < -1) = false := by rw [decide_eq_false_iff_not]; omega
  have k2 : decide ((s.size : Int) < (d : Int)) = false := by rw [decide_eq_false_iff_not]; omega
  have k3 : decide ((d : Int) < (c : Int)) = false := by rw [decide_eq_false_iff_not]; omega
  have k5 : decide ((c : Int) < 0) = false := by rw [decide_eq_false_iff_not]; omega
  have k6 : decide ((d : Int) < 0) = false := by rw [decide_eq_false_iff_not]; omega
  have k7 : decide ((s.size : Int) < -1) = false := by rw [decide_eq_false_iff_not]; omega
  obtain ⟨c1, hc1⟩ : ∃ x : Nat, (s.size : Int) - (c : Int) = (x : Int) := ⟨s.size - c, by omega⟩
  obtain ⟨d1, hd1⟩ : ∃ x : Nat, (s.size : Int) - (d : Int) = (x : Int) := ⟨s.size - d, by omega⟩
  have ec : s.size - c = c1 := by omega
  have ed : s.size - d = d1 := by omega
  rw [ec] at m3
  rw [ed] at m4
  have j7 : c1 ≤ s.size := by omega
  have j8 : d1 ≤ s.size := by omega
  clear ec ed
  have n1 : ((b : Int) == (s.size : Int)) = false := by rw [beq_eq_false_iff_ne]; omega
  have n2 : ((d : Int) == (s.size : Int)) = false := by rw [beq_eq_false_iff_ne]; omega
  clear ht
  go_enter Try.func8, Try.ntmps8
  go_wp2_with fail
  refine (few_any w.heap.size _ ts _ (unhide HT)).mono ?_
  rintro e x1 ⟨rfl, hx1⟩
  have hx2 := hx1.symm
  subst hx2
  clear hx1
  rw [hf]
  go_wp2_with fail
  refine (fr s ts false (a : Int) _ _ (by omega) (unhide HT) h1).mono ?_
  rintro e y1 ⟨rfl, b0⟩
  have HT := hide ((unhide HT).next b0)
  have HB := hide ((unhide HB).trans (b0.mono (unhide HB).size))
  clear b0
  go_wp2_with fail
  refine (fr s ts true (b : Int) _ _ (by omega) (unhide HT) h2).mono ?_
  rintro e y2 ⟨rfl, b0⟩
  have HT := hide ((unhide HT).next b0)
  have HB := hide ((unhide HB).trans (b0.mono (unhide HB).size))
  clear b0
  go_wp2_with fail
  refine (bk s ts false (c : Int) _ _ (by omega) (by omega) (unhide HT) h3).mono ?_
  rintro e y3 ⟨rfl, b0⟩
  have HT := hide ((unhide HT).next b0)
  have HB := hide ((unhide HB).trans (b0.mono (unhide HB).size))
  clear b0
  go_wp2_with fail
  refine (bk s ts true (d : Int) _ _ (by omega) (by omega) (unhide HT) h4).mono ?_
  rintro e y4 ⟨rfl, b0⟩
  have HT := hide ((unhide HT).next b0)
  have HB := hide ((unhide HB).trans (b0.mono (unhide HB).size))
  clear b0
  go_wp2_with fail
  refine (mt (preS s a) ts true _ _ (by unfold preS; rw [extract_size s 0 a (by omega)]; omega) (unhide HT) m1).mono ?_
  rintro e y5 ⟨rfl, b0⟩
  have HT := hide ((unhide HT).next b0)
  have HB := hide ((unhide HB).trans (b0.mono (unhide HB).size))
  clear b0
  go_wp2_with fail
  refine (mt (preS s b) ts true _ _ (by unfold preS; rw [extract_size s 0 b (by omega)]; omega) (unhide HT) m2).mono ?_
  rintro e y6 ⟨rfl, b0⟩
  have HT := hide ((unhide HT).next b0)
  have HB := hide ((unhide HB).trans (b0.mono (unhide HB).size))
  clear b0
  go_wp2_with fail
  refine (mt (sufS s c1) ts true _ _ (by unfold sufS; rw [extract_size s c1 s.size (Nat.le_refl _)]; omega) (unhide HT) m3).mono ?_
  rintro e y7 ⟨rfl, b0⟩
  have HT := hide ((unhide HT).next b0)
  have HB := hide ((unhide HB).trans (b0.mono (unhide HB).size))
  clear b0
  go_wp2_with fail
  refine (mt (sufS s d1) ts true _ _ (by unfold sufS; rw [extract_size s d1 s.size (Nat.le_refl _)]; omega) (unhide HT) m4).mono ?_
  rintro e y8 ⟨rfl, b0⟩
  have HT := hide ((unhide HT).next b0)
  have HB := hide ((unhide HB).trans (b0.mono (unhide HB).size))
  clear b0
  go_wp2_with fail
  refine (mt s ts false _ _ (by omega) (unhide HT) h5).mono ?_
  rintro e y9 ⟨rfl, b0⟩
  have HT := hide ((unhide HT).next b0)
  have HB := hide ((unhide HB).trans (b0.mono (unhide HB).size))
  clear b0
  go_wp2_with fail
  refine (mt s ts false _ _ (by omega) (unhide HT) h5).mono ?_
  rintro e y10 ⟨rfl, b0⟩
  have HT := hide ((unhide HT).next b0)
  have HB := hide ((unhide HB).trans (b0.mono (unhide HB).size))
  clear b0
  go_wp2_with fail
  refine (awake_any _).mono ?_
  rintro e z ⟨rfl, b0⟩
  go_wp2_with fail
  go_ret
  exact ⟨rfl, (unhide HB).trans (b0.mono (unhide HB).size)⟩

set_option maxHeartbeats 4000000 in
theorem cuts_111 (v : Value) (s : ByteArray) (ts : List Tok) (w : World) (ht : TR w v ts) (hf : fewB ts = true) (hs : s.size ≤ 100)
    (a b : Nat) (q1 : a ≤ b) (q2 : b ≤ s.size) (h1 : frontI s ts false = a) (h2 : frontI s ts true = b) (m1 : matchB (preS s a) ts = true) (m2 : matchB (preS s b) ts = true) (c d : Nat) (q3 : c ≤ d) (q4 : d ≤ s.size) (h3 : backI s ts false = c) (h4 : backI s ts true = d) (m3 : matchB (sufS s (s.size - c)) ts = true) (m4 : matchB (sufS s (s.size - d)) ts = true) (h5 : matchB s ts = true) (e1 : b = s.size) (e2 : d = s.size) :
    Calls Try.prog 8 #[v, .string s] w fun e w' => e = .returned (.bool true) ∧ Below w.heap.size w w' := by
  have hl := (fewB_spec hf).1
  have HT := hide ht
  have HB : Hid (Below w.heap.size w w) := hide (Below.refl _ _)
  obtain ⟨aa, ca, rfl, _⟩ := TokRow.shape ht
  have hd100 : decide ((100 : Int) < (s.size : Int)) = false := by simp; omega
  have i1 : ¬ (a : Int) < -1 := by omega
  have i2 : ¬ (s.size : Int) < (b : Int) := by omega
  have i3 : ¬ (b : Int) < (a : Int) := by omega
  have i4 : (0 : Int) ≤ (a : Int) := by omega
  have i5 : ¬ (a : Int) < 0 := by omega
  have i6 : ¬ (b : Int) < 0 := by omega
  have i7 : a ≤ s.size := by omega
  have j1 : ¬ (c : Int) < -1 := by omega
  have j2 : ¬ (s.size : Int) < (d : Int) := by omega
  have j3 : ¬ (d : Int) < (c : Int) := by omega
  have j4 : (0 : Int) ≤ (c : Int) := by omega
  have j5 : ¬ (c : Int) < 0 := by omega
  have j6 : ¬ (d : Int) < 0 := by omega
  have k1 : decide ((c : Int) < -1) = false := by rw [decide_eq_false_iff_not]; omega
  have k2 : decide ((s.size : Int) < (d : Int)) = false := by rw [decide_eq_false_iff_not]; omega
  have k3 : decide ((d : Int) < (c : Int)) = false := by rw [decide_eq_false_iff_not]; omega
  have k5 : decide ((c : Int) < 0) = false := by rw [decide_eq_false_iff_not]; omega
  have k6 : decide ((d : Int) < 0) = false := by rw [decide_eq_false_iff_not]; omega
  have k7 : decide ((s.size : Int) < -1) = false := by rw [decide_eq_false_iff_not]; omega
  obtain ⟨c1, hc1⟩ : ∃ x : Nat, (s.size : Int) - (c : Int) = (x : Int) := ⟨s.size - c, by omega⟩
  obtain ⟨d1, hd1⟩ : ∃ x : Nat, (s.size : Int) - (d : Int) = (x : Int) := ⟨s.size - d, by omega⟩
  have ec : s.size - c = c1 := by omega
  have ed : s.size - d = d1 := by omega
  rw [ec] at m3
  rw [ed] at m4
  have j7 : c1 ≤ s.size := by omega
  have j8 : d1 ≤ s.size := by omega
  clear ec ed
  have n1 : ((b : Int) == (s.size : Int)) = true := by rw [e1]; simp
  have n2 : ((d : Int) == (s.size : Int)) = true := by rw [e2]; simp
  have HE1 := hide e1
  have HE2 := hide e2
  clear e1 e2
  clear ht
  go_enter Try.func8, Try.ntmps8
  go_wp2_with fail
  refine (few_any w.heap.size _ ts _ (unhide HT)).mono ?_
  rintro e x1 ⟨rfl, hx1⟩
  have hx2 := hx1.symm
  subst hx2
  clear hx1
  rw [hf]
  go_wp2_with fail
  refine (fr s ts false (a : Int) _ _ (by omega) (unhide HT) h1).mono ?_
  rintro e y1 ⟨rfl, b0⟩
  have HT := hide ((unhide HT).next b0)
  have HB := hide ((unhide HB).trans (b0.mono (unhide HB).size))
  clear b0
  go_wp2_with fail
  refine (fr s ts true (b : Int) _ _ (by omega) (unhide HT) h2).mono ?_
  rintro e y2 ⟨rfl, b0⟩
  have HT := hide ((unhide HT).next b0)
  have HB := hide ((unhide HB).trans (b0.mono (unhide HB).size))
  clear b0
  go_wp2_with fail
  refine (bk s ts false (c : Int) _ _ (by omega) (by omega) (unhide HT) h3).mono ?_
  rintro e y3 ⟨rfl, b0⟩
  have HT := hide ((unhide HT).next b0)
  have HB := hide ((unhide HB).trans (b0.mono (unhide HB).size))
  clear b0
  go_wp2_with fail
  refine (bk s ts true (d : Int) _ _ (by omega) (by omega) (unhide HT) h4).mono ?_
  rintro e y4 ⟨rfl, b0⟩
  have HT := hide ((unhide HT).next b0)
  have HB := hide ((unhide HB).trans (b0.mono (unhide HB).size))
  clear b0
  go_wp2_with fail
  refine (mt (preS s a) ts true _ _ (by unfold preS; rw [extract_size s 0 a (by omega)]; omega) (unhide HT) m1).mono ?_
  rintro e y5 ⟨rfl, b0⟩
  have HT := hide ((unhide HT).next b0)
  have HB := hide ((unhide HB).trans (b0.mono (unhide HB).size))
  clear b0
  go_wp2_with fail
  refine (mt (preS s b) ts true _ _ (by unfold preS; rw [extract_size s 0 b (by omega)]; omega) (unhide HT) m2).mono ?_
  rintro e y6 ⟨rfl, b0⟩
  have HT := hide ((unhide HT).next b0)
  have HB := hide ((unhide HB).trans (b0.mono (unhide HB).size))
  clear b0
  go_wp2_with fail
  refine (mt (sufS s c1) ts true _ _ (by unfold sufS; rw [extract_size s c1 s.size (Nat.le_refl _)]; omega) (unhide HT) m3).mono ?_
  rintro e y7 ⟨rfl, b0⟩
  have HT := hide ((unhide HT).next b0)
  have HB := hide ((unhide HB).trans (b0.mono (unhide HB).size))
  clear b0
  go_wp2_with fail
  refine (mt (sufS s d1) ts true _ _ (by unfold sufS; rw [extract_size s d1 s.size (Nat.le_refl _)]; omega) (unhide HT) m4).mono ?_
  rintro e y8 ⟨rfl, b0⟩
  have HT := hide ((unhide HT).next b0)
  have HB := hide ((unhide HB).trans (b0.mono (unhide HB).size))
  clear b0
  go_wp2_with fail
  refine (mt s ts true _ _ (by omega) (unhide HT) h5).mono ?_
  rintro e y9 ⟨rfl, b0⟩
  have HT := hide ((unhide HT).next b0)
  have HB := hide ((unhide HB).trans (b0.mono (unhide HB).size))
  clear b0
  go_wp2_with fail
  refine (mt s ts true _ _ (by omega) (unhide HT) h5).mono ?_
  rintro e y10 ⟨rfl, b0⟩
  have HT := hide ((unhide HT).next b0)
  have HB := hide ((unhide HB).trans (b0.mono (unhide HB).size))
  clear b0
  go_wp2_with fail
  refine (awake_any _).mono ?_
  rintro e z ⟨rfl, b0⟩
  go_wp2_with fail
  go_ret
  exact ⟨rfl, (unhide HB).trans (b0.mono (unhide HB).size)⟩

set_option maxHeartbeats 2000000 in
theorem cuts_walk (v : Value) (s : ByteArray) (ts : List Tok) (w : World) (ht : TR w v ts) (hs : s.size ≤ maxLen) :
    Calls Try.prog 8 #[v, .string s] w fun e w' => e = .returned (.bool true) ∧ Below w.heap.size w w' := by
  unfold maxLen at hs
  rcases Bool.eq_false_or_eq_true (fewB ts) with hf | hf
  · by_cases h : (100 : Int) < (s.size : Int)
    · have HT := hide ht
      obtain ⟨aa, ca, rfl, _⟩ := TokRow.shape ht
      clear ht
      go_enter Try.func8, Try.ntmps8
      go_wp2_with fail
      refine (few_any w.heap.size _ ts _ (unhide HT)).mono ?_
      rintro e x1 ⟨rfl, hx1⟩
      have hx2 := hx1.symm
      subst hx2
      clear hx1
      rw [hf]
      go_wp2_with fail
      refine (awake_any _).mono ?_
      rintro e x3 ⟨rfl, b3⟩
      go_wp2_with fail
      go_ret
      exact ⟨rfl, b3⟩
    · have hs' : s.size ≤ 100 := by omega
      rcases front_cases s ts with ⟨h1, h2, h5⟩ | ⟨a, b, q1, q2, h1, h2, m1, m2, f5⟩
      · rcases back_cases s ts with ⟨h3, h4, _⟩ | ⟨c, d, q3, q4, h3, h4, m3, m4, g5⟩
        · exact cuts_000 v s ts w ht hf hs' h1 h2 h3 h4 h5
        · exact cuts_010 v s ts w ht hf hs' h1 h2 c d q3 q4 h3 h4 m3 m4 h5 (fun e => by rw [g5, decide_eq_true e] at h5; cases h5)
      · rcases back_cases s ts with ⟨h3, h4, h5⟩ | ⟨c, d, q3, q4, h3, h4, m3, m4, g5⟩
        · exact cuts_100 v s ts w ht hf hs' a b q1 q2 h1 h2 m1 m2 h3 h4 h5 (fun e => by rw [f5, decide_eq_true e] at h5; cases h5)
        · by_cases e1 : b = s.size
          · have h5 : matchB s ts = true := by rw [f5, decide_eq_true e1]
            have e2 : d = s.size := by rw [g5] at h5; exact of_decide_eq_true h5
            exact cuts_111 v s ts w ht hf hs' a b q1 q2 h1 h2 m1 m2 c d q3 q4 h3 h4 m3 m4 h5 e1 e2
          · have h5 : matchB s ts = false := by rw [f5, decide_eq_false e1]
            exact cuts_110 v s ts w ht hf hs' a b q1 q2 h1 h2 m1 m2 c d q3 q4 h3 h4 m3 m4 h5 e1 (fun e => by rw [g5, decide_eq_true e] at h5; cases h5)
  · have HT := hide ht
    obtain ⟨aa, ca, rfl, _⟩ := TokRow.shape ht
    clear ht
    go_enter Try.func8, Try.ntmps8
    go_wp2_with fail
    refine (few_any w.heap.size _ ts _ (unhide HT)).mono ?_
    rintro e x1 ⟨rfl, hx1⟩
    have hx2 := hx1.symm
    subst hx2
    clear hx1
    rw [hf]
    go_wp2_with fail
    refine (awake_any _).mono ?_
    rintro e x3 ⟨rfl, b3⟩
    go_wp2_with fail
    go_ret
    exact ⟨rfl, b3⟩

end Go.Proofs.Ytegaonlpbcpobaa

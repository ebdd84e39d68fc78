/-
  The walk of GlobParses.
-/
import Derived.Test.YtegaonlpbcpobaaRPutL
import Derived.Test.YtegaonlpbcpobaaRParse
import Derived.Test.YtegaonlpbcpobaaSame
namespace Go.Proofs.Ytegaonlpbcpobaa
open Go.RowKit

theorem rangesL_len (s : ByteArray) (q : List Bool) : ∀ F k e, (rangesL s q F k e).length ≤ F
  | 0, _, _ => Nat.le_refl _
  | F + 1, k, e => by
    unfold rangesL
    split
    · split
      · have := rangesL_len s q F (k + 3) e; simp; omega
      · have := rangesL_len s q F (k + 1) e; simp; omega
    · simp
theorem parseN_len (s : ByteArray) (q : List Bool) : ∀ F k, (parseN s q F k).length ≤ F
  | 0, _ => Nat.le_refl _
  | F + 1, k => by
    unfold parseN
    split
    · have := parseN_len s q F (cutT s q k).2; simp; omega
    · simp
theorem findFrom_top {p : Nat → Bool} {n : Nat} : ∀ F k, findFrom p n F k ≤ n
  | 0, _ => Nat.le_refl _
  | F + 1, k => by
    unfold findFrom
    split
    · split
      · omega
      · exact findFrom_top F (k + 1)
    · exact Nat.le_refl _
theorem cutT_len (s : ByteArray) (q : List Bool) (k : Nat) : (cutT s q k).1.rs.length ≤ s.size := by
  unfold cutT
  split
  · simp
  split
  · simp
  split
  · have h1 := rangesL_len s q (classEnd s q (classAt s q k) - classAt s q k) (classAt s q k) (classEnd s q (classAt s q k))
    have h2 : classEnd s q (classAt s q k) ≤ s.size := findFrom_top _ _
    simp only
    omega
  · simp
theorem parseN_rs (s : ByteArray) (q : List Bool) : ∀ F k, ∀ t ∈ parseN s q F k, t.rs.length ≤ s.size
  | 0, _, t, h => by cases h
  | F + 1, k, t, h => by
    unfold parseN at h
    split at h
    · rcases List.mem_cons.1 h with rfl | h
      · exact cutT_len s q k
      · exact parseN_rs s q F _ t h
    · cases h

theorem few_parse (s : ByteArray) (q : List Bool) (hs : s.size ≤ 100000) : (parseL s q).length ≤ 100000 ∧ ∀ t ∈ parseL s q, t.rs.length ≤ 100000 :=
  ⟨Nat.le_trans (parseN_len s q _ _) hs, fun t ht => Nat.le_trans (parseN_rs s q _ _ t ht) hs⟩

set_option maxHeartbeats 4000000 in
theorem parses_few (s : ByteArray) (v : Value) (q : List Bool) (w : World) (hq : QRow w.heap.size w v q) (hs : s.size ≤ 500) :
    Calls Try.prog 3 #[.string s, v] w fun e w' => e = .returned (.bool true) ∧ Below w.heap.size w w' := by
  have HQ := hide hq
  obtain ⟨a, cap, rfl, _⟩ := hq.shape
  clear hq
  obtain ⟨ts, hts⟩ : ∃ ts, ts = parseL s q := ⟨_, rfl⟩
  have HF : Hid (ts.length ≤ 100000 ∧ ∀ t ∈ ts, t.rs.length ≤ 100000) := hide (by rw [hts]; exact few_parse s q (by omega))
  have HP := hide (parse_any w.heap.size _ s q w (by omega) (unhide HQ) (Nat.le_refl _))
  rw [← hts] at HP
  have HTS := hide hts
  clear hts
  go_enter Try.func3, Try.ntmps3
  go_wp2_with fail
  refine (unhide HP).mono ?_
  rintro e y1 ⟨v1, rfl, t1, b1⟩
  obtain ⟨a1, c1, rfl, _⟩ := TokRow.shape t1
  have T1 := hide t1
  have B1 := hide b1
  clear t1 b1
  go_wp2_with fail
  refine (rputl_any y1.heap.size _ ts y1 (unhide T1) (Nat.le_refl _) (unhide HF)).mono ?_
  rintro e y2 ⟨v2, rfl, t2, b2⟩
  obtain ⟨a2, c2, rfl, _⟩ := TokRow.shape t2
  have T2 := hide t2
  have B2 := hide ((unhide B1).trans (b2.mono (unhide B1).size))
  clear t2 b2
  have HP2 := hide (rparse_any w.heap.size _ s q y2 (by omega) ((unhide HQ).below (unhide B2)) (unhide B2).size)
  rw [← unhide HTS] at HP2
  go_wp2_with fail
  refine (unhide HP2).mono ?_
  rintro e y3 ⟨v3, rfl, t3, b3⟩
  obtain ⟨a3, c3, rfl, _⟩ := TokRow.shape t3
  have T3 := hide t3
  have T2' := hide (TR.next (unhide T2) b3)
  have B3 := hide ((unhide B2).trans (b3.mono (unhide B2).size))
  clear t3 b3 HP2
  go_wp2_with fail
  refine (same_any _ _ ts y3 (unhide T2') (unhide T3)).mono ?_
  rintro e y4 ⟨rfl, b4⟩
  have B4 := hide ((unhide B3).trans (b4.mono (unhide B3).size))
  clear b4
  go_wp2_with fail
  refine (awake_any _).mono ?_
  rintro e y5 ⟨rfl, b5⟩
  go_wp2_with fail
  go_ret
  exact ⟨rfl, (unhide B4).trans (b5.mono (unhide B4).size)⟩

set_option maxHeartbeats 1000000 in
theorem parses_walk (s : ByteArray) (v : Value) (q : List Bool) (w : World) (hq : QRow w.heap.size w v q) (hs : s.size ≤ maxLen) :
    Calls Try.prog 3 #[.string s, v] w fun e w' => e = .returned (.bool true) ∧ Below w.heap.size w w' := by
  unfold maxLen at hs
  by_cases h : (500 : Int) < (s.size : Int)
  · obtain ⟨a, cap, rfl, _⟩ := hq.shape
    clear hq
    go_enter Try.func3, Try.ntmps3
    go_wp2_with fail
    go_ret
    exact ⟨rfl, Below.refl _ _⟩
  · exact parses_few s v q w hq (by omega)

end Go.Proofs.Ytegaonlpbcpobaa

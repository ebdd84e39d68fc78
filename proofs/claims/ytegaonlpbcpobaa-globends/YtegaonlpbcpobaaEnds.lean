/-
  The walk of GlobEnds.
-/
import Derived.Test.YtegaonlpbcpobaaREnds
namespace Go.Proofs.Ytegaonlpbcpobaa
open Go.RowKit

theorem rfr (s : ByteArray) (ts : List Tok) (l : Bool) (k : Int) (v : Value) (w : World) (hs : s.size ≤ 10000) (ht : TR w v ts) (h : frontI s ts l = k) :
    Calls Try.prog 20 #[v, .string s, .bool l] w fun e w' => e = .returned (.int .i64 k) ∧ Below w.heap.size w w' := by
  have := rfront_any v s ts l w hs ht
  rw [h] at this
  exact this
theorem rbk (s : ByteArray) (ts : List Tok) (l : Bool) (k : Int) (v : Value) (w : World) (hs : s.size ≤ 10000) (ht : TR w v ts) (h : backI s ts l = k) :
    Calls Try.prog 22 #[v, .string s, .bool l] w fun e w' => e = .returned (.int .i64 k) ∧ Below w.heap.size w w' := by
  have := rback_any v s ts l w hs ht
  rw [h] at this
  exact this

set_option maxHeartbeats 4000000 in
theorem ends_few (v : Value) (s : ByteArray) (ts : List Tok) (l : Bool) (w : World) (ht : TR w v ts) (fa : fewB ts = true) (hs : s.size ≤ 100) :
    Calls Try.prog 5 #[v, .string s, .bool l] w fun e w' => e = .returned (.bool true) ∧ Below w.heap.size w w' := by
  have HT := hide ht
  have HF := hide fa
  have hl60 := (fewB_spec fa).1
  obtain ⟨fk, hfk⟩ : ∃ k, frontI s ts l = k := ⟨_, rfl⟩
  obtain ⟨bk', hbk⟩ : ∃ k, backI s ts l = k := ⟨_, rfl⟩
  have HFK := hide hfk
  have HBK := hide hbk
  obtain ⟨aa, ca, rfl, _⟩ := TokRow.shape ht
  clear ht hfk hbk fa
  go_enter Try.func5, Try.ntmps5
  go_wp2_with fail
  refine (few_any w.heap.size _ ts _ (unhide HT)).mono ?_
  rintro e x1 ⟨rfl, hx1⟩
  have hx2 := hx1.symm
  subst hx2
  clear hx1
  rw [unhide HF]
  go_wp2_with fail
  refine (fr s ts l _ _ _ (by omega) (unhide HT) (unhide HFK)).mono ?_
  rintro e y1 ⟨rfl, b1⟩
  have T1 := hide ((unhide HT).next b1)
  have B1 := hide b1
  clear b1
  go_wp2_with fail
  refine (pt ts _ _ (unhide T1) (unhide HF)).mono ?_
  rintro e y2 ⟨a2, c2, rfl, t2, b2⟩
  have P2 := hide t2
  have T2 := hide ((unhide T1).next b2)
  have B2 := hide ((unhide B1).trans (b2.mono (unhide B1).size))
  clear b2 t2
  go_wp2_with fail
  refine (rfr s ts l _ _ _ (by omega) (unhide P2) (unhide HFK)).mono ?_
  rintro e y3 ⟨rfl, b3⟩
  have T3 := hide ((unhide T2).next b3)
  have B3 := hide ((unhide B2).trans (b3.mono (unhide B2).size))
  clear b3
  go_wp2_with fail
  refine (bk s ts l _ _ _ (by omega) (by omega) (unhide T3) (unhide HBK)).mono ?_
  rintro e y4 ⟨rfl, b4⟩
  have T4 := hide ((unhide T3).next b4)
  have B4 := hide ((unhide B3).trans (b4.mono (unhide B3).size))
  clear b4
  go_wp2_with fail
  refine (pt ts _ _ (unhide T4) (unhide HF)).mono ?_
  rintro e y5 ⟨a5, c5, rfl, t5, b5⟩
  have P5 := hide t5
  have B5 := hide ((unhide B4).trans (b5.mono (unhide B4).size))
  clear b5 t5
  go_wp2_with fail
  refine (rbk s ts l _ _ _ (by omega) (unhide P5) (unhide HBK)).mono ?_
  rintro e y6 ⟨rfl, b6⟩
  have B6 := hide ((unhide B5).trans (b6.mono (unhide B5).size))
  clear b6
  go_wp2_with fail
  refine (awake_any _).mono ?_
  rintro e y8 ⟨rfl, b8⟩
  go_wp2_with fail
  go_ret
  exact ⟨rfl, (unhide B6).trans (b8.mono (unhide B6).size)⟩

set_option maxHeartbeats 1000000 in
theorem ends_walk (v : Value) (s : ByteArray) (ts : List Tok) (l : Bool) (w : World) (ht : TR w v ts) (hs : s.size ≤ maxLen) :
    Calls Try.prog 5 #[v, .string s, .bool l] w fun e w' => e = .returned (.bool true) ∧ Below w.heap.size w w' := by
  unfold maxLen at hs
  rcases Bool.eq_false_or_eq_true (fewB ts) with fa | fa
  · by_cases h : (100 : Int) < (s.size : Int)
    · have HA := hide ht
      obtain ⟨aa, ca, rfl, _⟩ := TokRow.shape ht
      clear ht
      go_enter Try.func5, Try.ntmps5
      go_wp2_with fail
      refine (few_any w.heap.size _ ts _ (unhide HA)).mono ?_
      rintro e x1 ⟨rfl, hx1⟩
      have hx2 := hx1.symm
      subst hx2
      clear hx1
      rw [fa]
      go_wp2_with fail
      refine (awake_any _).mono ?_
      rintro e x3 ⟨rfl, b3⟩
      go_wp2_with fail
      go_ret
      exact ⟨rfl, b3⟩
    · exact ends_few v s ts l w ht fa (by omega)
  · have HA := hide ht
    obtain ⟨aa, ca, rfl, _⟩ := TokRow.shape ht
    clear ht
    go_enter Try.func5, Try.ntmps5
    go_wp2_with fail
    refine (few_any w.heap.size _ ts _ (unhide HA)).mono ?_
    rintro e x1 ⟨rfl, hx1⟩
    have hx2 := hx1.symm
    subst hx2
    clear hx1
    rw [fa]
    go_wp2_with fail
    refine (awake_any _).mono ?_
    rintro e x3 ⟨rfl, b3⟩
    go_wp2_with fail
    go_ret
    exact ⟨rfl, b3⟩

end Go.Proofs.Ytegaonlpbcpobaa

/-
  The walk of GlobMatches.
-/
import Derived.Test.YtegaonlpbcpobaaRMatch
import Derived.Test.YtegaonlpbcpobaaRPutW
namespace Go.Proofs.Ytegaonlpbcpobaa
open Go.RowKit

theorem rm (s : ByteArray) (ts : List Tok) (b : Bool) (v : Value) (w : World) (hs : s.size ≤ 100000) (ht : TR w v ts) (h : matchB s ts = b) :
    Calls Try.prog 16 #[v, .string s] w fun e w' => e = .returned (.bool b) ∧ Below w.heap.size w w' := by
  have := rmatch_any w.heap.size v s ts w hs ht (Nat.le_refl _)
  rw [h] at this
  exact this
theorem rsp (ts : List Tok) (b : Bool) (v : Value) (w : World) (ht : TR w v ts) (h : specialB ts = b) :
    Calls Try.prog 18 #[v] w fun e w' => e = .returned (.bool b) ∧ w' = w := by
  have := rspecial_any w.heap.size v ts w ht
  rw [h] at this
  exact this
theorem pt (ts : List Tok) (v : Value) (w : World) (ht : TR w v ts) (hf : fewB ts = true) :
    Calls Try.prog 10 #[v] w fun e w' => ∃ a c, e = .returned (.slice a ts.length c) ∧ TR w' (.slice a ts.length c) ts ∧ Below w.heap.size w w' := by
  refine (rput_any w.heap.size v ts w ht (Nat.le_refl _) hf).mono ?_
  rintro e w' ⟨v', rfl, h1, h2⟩
  obtain ⟨a, c, rfl, _⟩ := TokRow.shape h1
  exact ⟨a, c, rfl, h1, h2⟩

set_option maxHeartbeats 4000000 in
theorem matches_few (v : Value) (s : ByteArray) (ts : List Tok) (w : World) (mm sm : Bool) (hm : matchB s ts = mm) (hsm : specialB ts = sm) (ht : TR w v ts) (fa : fewB ts = true) (hs : s.size ≤ 200) :
    Calls Try.prog 4 #[v, .string s] w fun e w' => e = .returned (.bool true) ∧ Below w.heap.size w w' := by
  have HT := hide ht
  have HM := hide hm
  have HSM := hide hsm
  have HF := hide fa
  obtain ⟨aa, ca, rfl, _⟩ := TokRow.shape ht
  clear ht hm hsm
  cases mm <;> cases sm
  all_goals
    go_enter Try.func4, Try.ntmps4
    go_wp2_with fail
    refine (few_any w.heap.size _ ts _ (unhide HT)).mono ?_
    rintro e x1 ⟨rfl, hx1⟩
    have hx2 := hx1.symm
    subst hx2
    clear hx1
    rw [unhide HF]
    go_wp2_with fail
    refine (mt s ts _ _ _ (by omega) (unhide HT) (unhide HM)).mono ?_
    rintro e y1 ⟨rfl, b1⟩
    have T1 := hide ((unhide HT).next b1)
    have B1 := hide b1
    clear b1
    go_wp2_with fail
    refine (pt ts _ _ (unhide T1) (unhide HF)).mono ?_
    rintro e y2 ⟨a2, c2, rfl, t2, b2⟩
    have P2 := hide t2
    have T2 := hide ((unhide T1).next b2)
    have B2 := hide ((unhide B1).trans (b2.mono (unhide B1).size))
    clear b2 t2
    go_wp2_with fail
    refine (rm s ts _ _ _ (by omega) (unhide P2) (unhide HM)).mono ?_
    rintro e y3 ⟨rfl, b3⟩
    have T3 := hide ((unhide T2).next b3)
    have B3 := hide ((unhide B2).trans (b3.mono (unhide B2).size))
    clear b3
    go_wp2_with fail
    refine (sp ts _ _ _ (unhide T3) (unhide HSM)).mono ?_
    rintro e y4 ⟨rfl, b4⟩
    have T4 := hide ((unhide T3).next b4)
    have B4 := hide ((unhide B3).trans (b4.mono (unhide B3).size))
    clear b4
    go_wp2_with fail
    refine (pt ts _ _ (unhide T4) (unhide HF)).mono ?_
    rintro e y5 ⟨a5, c5, rfl, t5, b5⟩
    have P5 := hide t5
    have B5 := hide ((unhide B4).trans (b5.mono (unhide B4).size))
    clear b5 t5
    go_wp2_with fail
    refine (rsp ts _ _ _ (unhide P5) (unhide HSM)).mono ?_
    rintro e y6 ⟨rfl, hy6⟩
    have hy7 := hy6.symm
    subst hy7
    clear hy6
    go_wp2_with fail
    refine (awake_any _).mono ?_
    rintro e y8 ⟨rfl, b8⟩
    go_wp2_with fail
    go_ret
    exact ⟨rfl, (unhide B5).trans (b8.mono (unhide B5).size)⟩

set_option maxHeartbeats 1000000 in
theorem matches_walk (v : Value) (s : ByteArray) (ts : List Tok) (w : World) (ht : TR w v ts) (hs : s.size ≤ maxLen) :
    Calls Try.prog 4 #[v, .string s] w fun e w' => e = .returned (.bool true) ∧ Below w.heap.size w w' := by
  unfold maxLen at hs
  rcases Bool.eq_false_or_eq_true (fewB ts) with fa | fa
  · by_cases h : (200 : Int) < (s.size : Int)
    · have HA := hide ht
      obtain ⟨aa, ca, rfl, _⟩ := TokRow.shape ht
      clear ht
      go_enter Try.func4, Try.ntmps4
      go_wp2_with fail
      refine (few_any w.heap.size _ ts _ (unhide HA)).mono ?_
      rintro e x1 ⟨rfl, hx1⟩
      have hx2 := hx1.symm
      subst hx2
      clear hx1
      rw [fa]
      go_wp2_with fail
      refine (awake_any _).mono ?_
      rintro e x3 ⟨rfl, b3⟩
      go_wp2_with fail
      go_ret
      exact ⟨rfl, b3⟩
    · exact matches_few v s ts w _ _ rfl rfl ht fa (by omega)
  · have HA := hide ht
    obtain ⟨aa, ca, rfl, _⟩ := TokRow.shape ht
    clear ht
    go_enter Try.func4, Try.ntmps4
    go_wp2_with fail
    refine (few_any w.heap.size _ ts _ (unhide HA)).mono ?_
    rintro e x1 ⟨rfl, hx1⟩
    have hx2 := hx1.symm
    subst hx2
    clear hx1
    rw [fa]
    go_wp2_with fail
    refine (awake_any _).mono ?_
    rintro e x3 ⟨rfl, b3⟩
    go_wp2_with fail
    go_ret
    exact ⟨rfl, b3⟩

end Go.Proofs.Ytegaonlpbcpobaa

/-
  PipeLost: a pipe that nobody reads takes all, and loses it; one that nobody writes has an end.
-/
import Derived.Test.YtiaenfnjjlpknaaPpAwk
namespace Go.Proofs.Ytiaenfnjjlpknaa
open Go.RowKit

theorem lo_r (x : Pp) (h : x.r = 1) : leE x false = 0 ∧ leS x false = ⟨[], 0, x.t⟩ := by
  obtain ⟨s, r, t⟩ := x
  simp only at h
  subst h
  exact ⟨rfl, rfl⟩
theorem wr_r (x : Pp) (d : List UInt8) : (wrS x d).r = x.r ∧ (wrS x d).t = x.t := by
  unfold wrS
  split <;> exact ⟨rfl, rfl⟩
set_option maxRecDepth 20000 in
set_option maxHeartbeats 1000000 in
theorem lost_walk (d : List UInt8) (n : Int) (w : World) (hn : I64 n) : Calls Try.prog 5 #[.string (BA d), .int .i64 n] w fun e w' => e = .returned (.bool true) ∧ Below w.heap.size w w' := by
  obtain ⟨D, hD⟩ : ∃ D, D = BA d := ⟨_, rfl⟩
  have hDs : D.size = d.length := by rw [hD]; rfl
  rw [← hD]
  have HD := hide hD
  obtain ⟨L, hL⟩ : ∃ L, L = d.length := ⟨_, rfl⟩
  rw [← hL] at hDs
  have HL := hide hL
  clear hD hL
  by_cases hbig : 1000 < L
  · have hb : (1000 : Int) < (L : Int) := by omega
    go_enter Try.func5, Try.ntmps5
    go_wp2_with fail
    refine (awake_any w).mono ?_
    rintro e w1 ⟨rfl, hw1⟩
    have HB := hide hw1
    clear hw1
    go_wp2
    go_ret
    exact ⟨rfl, unhide HB⟩
  · have hb : ¬ (1000 : Int) < (L : Int) := by omega
    have HNW := hide (new_hp (w := w) (W := w) (Below.refl _ _))
    go_enter Try.func5, Try.ntmps5
    go_wp2_with fail
    refine (unhide HNW).mono ?_
    rintro e w1 ⟨p, rfl, k1, _⟩
    have K1 := hide k1
    clear k1 HNW
    go_wp2_with fail
    rw [unhide HD]
    refine (write_hp (unhide K1) d rfl rfl rfl).mono ?_
    rintro e w2 ⟨rfl, k2⟩
    rw [← unhide HD]
    have K2 := hide k2
    clear k2 K1
    go_wp2_with fail
    refine (leave_hp (unhide K2) false (lo_r _ (wr_r _ _).1).1 (lo_r _ (wr_r _ _).1).2).mono ?_
    rintro e w3 ⟨rfl, k3⟩
    have K3 : Hid (Hp w w3 p ⟨[], 0, 1⟩) := hide (by rwa [show (wrS np0 d).t = 1 from (wr_r _ _).2] at k3)
    clear k3 K2
    go_wp2_with fail
    refine (len_any (unhide K3).at').mono ?_
    rintro e w4 ⟨rfl, hw4⟩
    rw [show w4 = w3 from hw4, show ((⟨[], 0, 1⟩ : Pp).s.length : Int) = 0 from rfl]
    clear hw4
    go_wp2_with fail
    rw [unhide HD]
    refine (write_hp (unhide K3) d (N := d.length) (E := 0) (y := ⟨[], 0, 1⟩) rfl rfl rfl).mono ?_
    rintro e w4 ⟨rfl, k4⟩
    rw [← unhide HD, ← unhide HL]
    have K4 := hide k4
    clear k4 K3
    go_wp2_with fail
    refine (read_hp (unhide K4) n (T := []) (E := 28) (y := ⟨[], 0, 1⟩) rfl rfl rfl).mono ?_
    rintro e w5 ⟨rfl, k5⟩
    have K5 := hide k5
    clear k5 K4
    go_wp2_with fail
    refine (len_any (unhide K5).at').mono ?_
    rintro e w6 ⟨rfl, hw6⟩
    rw [show w6 = w5 from hw6, show ((⟨[], 0, 1⟩ : Pp).s.length : Int) = 0 from rfl]
    clear hw6
    go_wp2_with fail
    refine (leave_hp (unhide K5) false (E := 28) (y := ⟨[], 0, 1⟩) rfl rfl).mono ?_
    rintro e w6 ⟨rfl, k6⟩
    have HNW := hide (new_hp k6.bel)
    clear k6 K5
    go_wp2_with fail
    refine (unhide HNW).mono ?_
    rintro e w7 ⟨q, rfl, k7, _⟩
    have K7 := hide k7
    clear k7 HNW
    go_wp2_with fail
    refine (leave_hp (unhide K7) true (E := 0) (y := ⟨[], 1, 0⟩) rfl rfl).mono ?_
    rintro e w8 ⟨rfl, k8⟩
    have K8 := hide k8
    clear k8 K7
    have hcase : n < 0 ∨ ¬ n < 0 := by omega
    obtain ⟨m, hm⟩ : ∃ m : Nat, m = (max n 0).toNat := ⟨_, rfl⟩
    have HRD : Hid (Calls Try.prog 10 #[.pointer (some ⟨q, 0, none⟩), .int .i64 (m : Int)] w8 fun e w' => e = .returned (.tuple #[.string (BA []), .int .i64 0]) ∧ Hp w w' q ⟨[], 1, 0⟩) := hide (by
      have e0 : rdE ⟨[], 1, 0⟩ (m : Int) = 0 := by
        unfold rdE
        rw [if_neg (by decide), if_neg (by omega), if_neg (fun h => absurd h.2.1 (Nat.lt_irrefl 0))]
      exact read_hp (unhide K8) m (by unfold rdT; rw [if_pos e0]; exact List.take_nil) e0 (by unfold rdS; rw [if_pos e0]; show (⟨List.drop _ [], 1, 0⟩ : Pp) = _; rw [List.drop_nil]))
    have hm2 : (n < 0 ∧ (m : Int) = 0) ∨ (¬ n < 0 ∧ n = (m : Int)) := by omega
    unfold I64 at hn
    clear hm hcase K8
    rcases hm2 with ⟨h1, h2⟩ | ⟨h1, h2⟩
    · rw [h2] at HRD
      clear h2
      go_wp2_with fail
      refine (unhide HRD).mono ?_
      rintro e w9 ⟨rfl, k9⟩
      have K9 := hide k9
      clear k9 HRD
      go_wp2_with fail
      rw [unhide HD]
      refine (write_hp (unhide K9) d (N := 0) (E := 28) (y := ⟨[], 1, 0⟩) rfl rfl rfl).mono ?_
      rintro e w10 ⟨rfl, k10⟩
      have HB := hide k10.bel
      clear k10 K9
      rw [show BA [] = ⟨#[]⟩ from rfl]
      go_wp2_with fail
      refine (awake_any _).mono ?_
      rintro e w11 ⟨rfl, hw11⟩
      have HB2 := hide ((unhide HB).trans (hw11.mono (unhide HB).size))
      clear hw11 HB
      go_wp2
      go_ret
      exact ⟨rfl, unhide HB2⟩
    · subst h2
      go_wp2_with fail
      refine (unhide HRD).mono ?_
      rintro e w9 ⟨rfl, k9⟩
      have K9 := hide k9
      clear k9 HRD
      go_wp2_with fail
      rw [unhide HD]
      refine (write_hp (unhide K9) d (N := 0) (E := 28) (y := ⟨[], 1, 0⟩) rfl rfl rfl).mono ?_
      rintro e w10 ⟨rfl, k10⟩
      have HB := hide k10.bel
      clear k10 K9
      rw [show BA [] = ⟨#[]⟩ from rfl]
      go_wp2_with fail
      refine (awake_any _).mono ?_
      rintro e w11 ⟨rfl, hw11⟩
      have HB2 := hide ((unhide HB).trans (hw11.mono (unhide HB).size))
      clear hw11 HB
      go_wp2
      go_ret
      exact ⟨rfl, unhide HB2⟩

end Go.Proofs.Ytiaenfnjjlpknaa

/-
  The contract of the law's 'same', of rows that hold the same tokens.
-/
import Derived.Test.YtegaonlpbcpobaaRPut
import Derived.BigQuiet
namespace Go.Proofs.Ytegaonlpbcpobaa
open Go.RowKit

theorem below_drewN {B n : Nat} {W W' : World} (h : Below B W W') : Below B W (W'.drewN n) := ⟨h.os, h.tape, h.output, h.size, h.block⟩

set_option maxRecDepth 100000 in
set_option maxHeartbeats 8000000 in
theorem same_any (va vb : Value) (ts : List Tok) (w : World) (ha : TR w va ts) (hb : TR w vb ts) :
    Calls Try.prog 9 #[va, vb] w fun e w' => e = .returned (.bool true) ∧ Below w.heap.size w w' := by
  have HA := hide ha
  have HB := hide hb
  obtain ⟨aa, ca, rfl, hmx⟩ := TokRow.shape ha
  obtain ⟨ab, cb, rfl, _⟩ := TokRow.shape hb
  clear ha hb
  go_enter Try.func9, Try.ntmps9
  go_wp2
  go_loopw [5] (fun i wr => ∃ (k : Nat), k ≤ ts.length ∧ i = .int .i64 (k : Int) ∧ Below w.heap.size w wr) (fun i _ => ts.length - (intOf i).toNat)
  case atStart => exact ⟨0, Nat.zero_le _, rfl, Below.refl _ _⟩
  case round =>
    obtain ⟨k, hk, rfl, hbel⟩ := hrel
    have HBEL := hide hbel
    by_cases hlt : k < ts.length
    · obtain ⟨b1, o1, ra1, rc1, e1, hb1, ht1, _⟩ := (TokRow.tok (unhide HA) hlt)
      obtain ⟨b2, o2, ra2, rc2, e2, hb2, ht2, _⟩ := (TokRow.tok (unhide HB) hlt)
      subst e1 e2
      obtain ⟨t, hteq⟩ : ∃ t, t = ts[k] := ⟨_, rfl⟩
      rw [← hteq] at ht1 ht2
      clear hteq
      have HR1 := hide ht1.row
      have HR2 := hide ht2.row
      have HK1 := hide ht1.toTokCells
      have HK2 := hide ht2.toTokCells
      obtain ⟨p0, p1, p2, p3⟩ := ht1.toTokCells.of_block (hbel.block _ hb1)
      obtain ⟨q0, q1, q2, q3⟩ := ht2.toTokCells.of_block (hbel.block _ hb2)
      have l0 : (0 : Int) ≤ (k : Int) := by omega
      have l1 : (k : Int) < (ts.length : Int) := by omega
      clear ht1 ht2 hbel
      go_wp2_with fail
      go_quiet (fail)
      go_wp2_with fail
      obtain ⟨W1, hW1⟩ : ∃ X, X = wr.drewN nq := ⟨_, rfl⟩
      rw [← hW1]
      have HB1 : Hid (Below w.heap.size w W1) := hide (by rw [hW1]; exact below_drewN (unhide HBEL))
      clear hW1 p0 p1 p2 p3 q0 q1 q2 q3 HBEL
      go_loopw [6] (fun i X => ∃ (j : Nat), j ≤ t.rs.length ∧ i = .int .i64 (j : Int) ∧ Below w.heap.size w X) (fun i _ => t.rs.length - (intOf i).toNat)
      case atStart => exact ⟨0, Nat.zero_le _, rfl, unhide HB1⟩
      case round =>
        clear HB1
        obtain ⟨j, hj, rfl, hbel⟩ := hrel
        have HBEL := hide hbel
        have p3 := ((unhide HK1).of_block (hbel.block _ hb1)).k3
        have q3 := ((unhide HK2).of_block (hbel.block _ hb2)).k3
        by_cases hjl : j < t.rs.length
        · obtain ⟨a1', c1', he1, _, _, hr1⟩ := unhide HR1
          cases he1
          obtain ⟨a2', c2', he2, _, _, hr2⟩ := unhide HR2
          cases he2
          rcases hr1 with hr1 | ⟨g1, s1, rfl, hg1, hc1⟩
          · simp [hr1] at hjl
          rcases hr2 with hr2 | ⟨g2, s2, rfl, hg2, hc2⟩
          · simp [hr2] at hjl
          have c0 := (hbel.cell (p := ⟨g1, s1 + j * 2, none⟩) hg1).trans (hc1 j hjl).1
          have c1 := (hbel.cell (p := ⟨g1, s1 + j * 2 + 1, none⟩) hg1).trans (hc1 j hjl).2
          have d0 := (hbel.cell (p := ⟨g2, s2 + j * 2, none⟩) hg2).trans (hc2 j hjl).1
          have d1 := (hbel.cell (p := ⟨g2, s2 + j * 2 + 1, none⟩) hg2).trans (hc2 j hjl).2
          obtain ⟨x, hx⟩ : ∃ x : Int × Int, x = t.rs[j] := ⟨_, rfl⟩
          rw [← hx] at c0 c1 d0 d1
          have m1 : (j : Int) < (t.rs.length : Int) := by omega
          have m0 : (0 : Int) ≤ (j : Int) := by omega
          clear hx hc1 hc2 hbel
          go_wp2_with fail
          go_quiet (fail)
          go_wp2
          go_roundw
          case rel => exact ⟨j + 1, by omega, by go_num, below_drewN (unhide HBEL)⟩
          case measure => simp [intOf]; omega
        · clear hbel
          go_wp2
          go_roundw
          case rel => exact ⟨k + 1, by omega, by go_num, unhide HBEL⟩
          case measure => simp [intOf]; omega
    · clear hbel
      go_wp2
      go_ret
      exact ⟨rfl, unhide HBEL⟩

end Go.Proofs.Ytegaonlpbcpobaa

/-
  The longest operator at the front of a text; a text of Digits alone.
-/
import Derived.Test.YtlmpdfeidjnmnaaDoorChars
namespace Go.Proofs.YtlmpdfeidjnmnaaDoor
open Go.RowKit

def opsT : List (List UInt8) := [[60, 60, 45], [60, 60], [60, 38], [60, 62], [60], [62, 62], [62, 38], [62], [38, 38], [38], [124, 124], [124], [59, 59], [59], [40], [41]]
/-- The first of the operators, from the k-th on, that a text begins with. -/
def opFrom (l : List UInt8) (k : Nat) : List UInt8 := ((opsT.drop k).find? (fun o => Lib.hasPrefix l o)).getD []
def opL (l : List UInt8) : List UInt8 := opFrom l 0
/-- The table of operators, where the program has it. -/
structure OpsAt (w : World) : Prop where
  at0 : w.cell? ⟨0, 0, none⟩ = some (.string ⟨#[60, 60, 45]⟩)
  at1 : w.cell? ⟨0, 1, none⟩ = some (.string ⟨#[60, 60]⟩)
  at2 : w.cell? ⟨0, 2, none⟩ = some (.string ⟨#[60, 38]⟩)
  at3 : w.cell? ⟨0, 3, none⟩ = some (.string ⟨#[60, 62]⟩)
  at4 : w.cell? ⟨0, 4, none⟩ = some (.string ⟨#[60]⟩)
  at5 : w.cell? ⟨0, 5, none⟩ = some (.string ⟨#[62, 62]⟩)
  at6 : w.cell? ⟨0, 6, none⟩ = some (.string ⟨#[62, 38]⟩)
  at7 : w.cell? ⟨0, 7, none⟩ = some (.string ⟨#[62]⟩)
  at8 : w.cell? ⟨0, 8, none⟩ = some (.string ⟨#[38, 38]⟩)
  at9 : w.cell? ⟨0, 9, none⟩ = some (.string ⟨#[38]⟩)
  at10 : w.cell? ⟨0, 10, none⟩ = some (.string ⟨#[124, 124]⟩)
  at11 : w.cell? ⟨0, 11, none⟩ = some (.string ⟨#[124]⟩)
  at12 : w.cell? ⟨0, 12, none⟩ = some (.string ⟨#[59, 59]⟩)
  at13 : w.cell? ⟨0, 13, none⟩ = some (.string ⟨#[59]⟩)
  at14 : w.cell? ⟨0, 14, none⟩ = some (.string ⟨#[40]⟩)
  at15 : w.cell? ⟨0, 15, none⟩ = some (.string ⟨#[41]⟩)

theorem opFrom_yes {l o : List UInt8} {k : Nat} {t : List (List UInt8)} (hk : opsT.drop k = o :: t) (h : Lib.hasPrefix l o = true) : opFrom l k = o := by
  unfold opFrom
  rw [hk, List.find?_cons, h]
  rfl
theorem opFrom_no {l o : List UInt8} {k : Nat} {t : List (List UInt8)} (hk : opsT.drop k = o :: t) (h : Lib.hasPrefix l o = false) : opFrom l k = opFrom l (k + 1) := by
  unfold opFrom
  rw [hk, List.find?_cons, h, ← List.drop_drop, hk]
  rfl

theorem idx0 (w : World) : (Instr.index 82 (Value.agg #[Value.string ⟨#[60, 60, 45]⟩, Value.string ⟨#[60, 60]⟩, Value.string ⟨#[60, 38]⟩, Value.string ⟨#[60, 62]⟩, Value.string ⟨#[60]⟩, Value.string ⟨#[62, 62]⟩, Value.string ⟨#[62, 38]⟩, Value.string ⟨#[62]⟩, Value.string ⟨#[38, 38]⟩, Value.string ⟨#[38]⟩, Value.string ⟨#[124, 124]⟩, Value.string ⟨#[124]⟩, Value.string ⟨#[59, 59]⟩, Value.string ⟨#[59]⟩, Value.string ⟨#[40]⟩, Value.string ⟨#[41]⟩]) (Value.int IntKind.i64 0)).run Tryd.prog w = .ok (.string ⟨#[60, 60, 45]⟩) w := by kernel_rfl
theorem idx1 (w : World) : (Instr.index 82 (Value.agg #[Value.string ⟨#[60, 60, 45]⟩, Value.string ⟨#[60, 60]⟩, Value.string ⟨#[60, 38]⟩, Value.string ⟨#[60, 62]⟩, Value.string ⟨#[60]⟩, Value.string ⟨#[62, 62]⟩, Value.string ⟨#[62, 38]⟩, Value.string ⟨#[62]⟩, Value.string ⟨#[38, 38]⟩, Value.string ⟨#[38]⟩, Value.string ⟨#[124, 124]⟩, Value.string ⟨#[124]⟩, Value.string ⟨#[59, 59]⟩, Value.string ⟨#[59]⟩, Value.string ⟨#[40]⟩, Value.string ⟨#[41]⟩]) (Value.int IntKind.i64 1)).run Tryd.prog w = .ok (.string ⟨#[60, 60]⟩) w := by kernel_rfl
theorem idx2 (w : World) : (Instr.index 82 (Value.agg #[Value.string ⟨#[60, 60, 45]⟩, Value.string ⟨#[60, 60]⟩, Value.string ⟨#[60, 38]⟩, Value.string ⟨#[60, 62]⟩, Value.string ⟨#[60]⟩, Value.string ⟨#[62, 62]⟩, Value.string ⟨#[62, 38]⟩, Value.string ⟨#[62]⟩, Value.string ⟨#[38, 38]⟩, Value.string ⟨#[38]⟩, Value.string ⟨#[124, 124]⟩, Value.string ⟨#[124]⟩, Value.string ⟨#[59, 59]⟩, Value.string ⟨#[59]⟩, Value.string ⟨#[40]⟩, Value.string ⟨#[41]⟩]) (Value.int IntKind.i64 2)).run Tryd.prog w = .ok (.string ⟨#[60, 38]⟩) w := by kernel_rfl
theorem idx3 (w : World) : (Instr.index 82 (Value.agg #[Value.string ⟨#[60, 60, 45]⟩, Value.string ⟨#[60, 60]⟩, Value.string ⟨#[60, 38]⟩, Value.string ⟨#[60, 62]⟩, Value.string ⟨#[60]⟩, Value.string ⟨#[62, 62]⟩, Value.string ⟨#[62, 38]⟩, Value.string ⟨#[62]⟩, Value.string ⟨#[38, 38]⟩, Value.string ⟨#[38]⟩, Value.string ⟨#[124, 124]⟩, Value.string ⟨#[124]⟩, Value.string ⟨#[59, 59]⟩, Value.string ⟨#[59]⟩, Value.string ⟨#[40]⟩, Value.string ⟨#[41]⟩]) (Value.int IntKind.i64 3)).run Tryd.prog w = .ok (.string ⟨#[60, 62]⟩) w := by kernel_rfl
theorem idx4 (w : World) : (Instr.index 82 (Value.agg #[Value.string ⟨#[60, 60, 45]⟩, Value.string ⟨#[60, 60]⟩, Value.string ⟨#[60, 38]⟩, Value.string ⟨#[60, 62]⟩, Value.string ⟨#[60]⟩, Value.string ⟨#[62, 62]⟩, Value.string ⟨#[62, 38]⟩, Value.string ⟨#[62]⟩, Value.string ⟨#[38, 38]⟩, Value.string ⟨#[38]⟩, Value.string ⟨#[124, 124]⟩, Value.string ⟨#[124]⟩, Value.string ⟨#[59, 59]⟩, Value.string ⟨#[59]⟩, Value.string ⟨#[40]⟩, Value.string ⟨#[41]⟩]) (Value.int IntKind.i64 4)).run Tryd.prog w = .ok (.string ⟨#[60]⟩) w := by kernel_rfl
theorem idx5 (w : World) : (Instr.index 82 (Value.agg #[Value.string ⟨#[60, 60, 45]⟩, Value.string ⟨#[60, 60]⟩, Value.string ⟨#[60, 38]⟩, Value.string ⟨#[60, 62]⟩, Value.string ⟨#[60]⟩, Value.string ⟨#[62, 62]⟩, Value.string ⟨#[62, 38]⟩, Value.string ⟨#[62]⟩, Value.string ⟨#[38, 38]⟩, Value.string ⟨#[38]⟩, Value.string ⟨#[124, 124]⟩, Value.string ⟨#[124]⟩, Value.string ⟨#[59, 59]⟩, Value.string ⟨#[59]⟩, Value.string ⟨#[40]⟩, Value.string ⟨#[41]⟩]) (Value.int IntKind.i64 5)).run Tryd.prog w = .ok (.string ⟨#[62, 62]⟩) w := by kernel_rfl
theorem idx6 (w : World) : (Instr.index 82 (Value.agg #[Value.string ⟨#[60, 60, 45]⟩, Value.string ⟨#[60, 60]⟩, Value.string ⟨#[60, 38]⟩, Value.string ⟨#[60, 62]⟩, Value.string ⟨#[60]⟩, Value.string ⟨#[62, 62]⟩, Value.string ⟨#[62, 38]⟩, Value.string ⟨#[62]⟩, Value.string ⟨#[38, 38]⟩, Value.string ⟨#[38]⟩, Value.string ⟨#[124, 124]⟩, Value.string ⟨#[124]⟩, Value.string ⟨#[59, 59]⟩, Value.string ⟨#[59]⟩, Value.string ⟨#[40]⟩, Value.string ⟨#[41]⟩]) (Value.int IntKind.i64 6)).run Tryd.prog w = .ok (.string ⟨#[62, 38]⟩) w := by kernel_rfl
theorem idx7 (w : World) : (Instr.index 82 (Value.agg #[Value.string ⟨#[60, 60, 45]⟩, Value.string ⟨#[60, 60]⟩, Value.string ⟨#[60, 38]⟩, Value.string ⟨#[60, 62]⟩, Value.string ⟨#[60]⟩, Value.string ⟨#[62, 62]⟩, Value.string ⟨#[62, 38]⟩, Value.string ⟨#[62]⟩, Value.string ⟨#[38, 38]⟩, Value.string ⟨#[38]⟩, Value.string ⟨#[124, 124]⟩, Value.string ⟨#[124]⟩, Value.string ⟨#[59, 59]⟩, Value.string ⟨#[59]⟩, Value.string ⟨#[40]⟩, Value.string ⟨#[41]⟩]) (Value.int IntKind.i64 7)).run Tryd.prog w = .ok (.string ⟨#[62]⟩) w := by kernel_rfl
theorem idx8 (w : World) : (Instr.index 82 (Value.agg #[Value.string ⟨#[60, 60, 45]⟩, Value.string ⟨#[60, 60]⟩, Value.string ⟨#[60, 38]⟩, Value.string ⟨#[60, 62]⟩, Value.string ⟨#[60]⟩, Value.string ⟨#[62, 62]⟩, Value.string ⟨#[62, 38]⟩, Value.string ⟨#[62]⟩, Value.string ⟨#[38, 38]⟩, Value.string ⟨#[38]⟩, Value.string ⟨#[124, 124]⟩, Value.string ⟨#[124]⟩, Value.string ⟨#[59, 59]⟩, Value.string ⟨#[59]⟩, Value.string ⟨#[40]⟩, Value.string ⟨#[41]⟩]) (Value.int IntKind.i64 8)).run Tryd.prog w = .ok (.string ⟨#[38, 38]⟩) w := by kernel_rfl
theorem idx9 (w : World) : (Instr.index 82 (Value.agg #[Value.string ⟨#[60, 60, 45]⟩, Value.string ⟨#[60, 60]⟩, Value.string ⟨#[60, 38]⟩, Value.string ⟨#[60, 62]⟩, Value.string ⟨#[60]⟩, Value.string ⟨#[62, 62]⟩, Value.string ⟨#[62, 38]⟩, Value.string ⟨#[62]⟩, Value.string ⟨#[38, 38]⟩, Value.string ⟨#[38]⟩, Value.string ⟨#[124, 124]⟩, Value.string ⟨#[124]⟩, Value.string ⟨#[59, 59]⟩, Value.string ⟨#[59]⟩, Value.string ⟨#[40]⟩, Value.string ⟨#[41]⟩]) (Value.int IntKind.i64 9)).run Tryd.prog w = .ok (.string ⟨#[38]⟩) w := by kernel_rfl
theorem idx10 (w : World) : (Instr.index 82 (Value.agg #[Value.string ⟨#[60, 60, 45]⟩, Value.string ⟨#[60, 60]⟩, Value.string ⟨#[60, 38]⟩, Value.string ⟨#[60, 62]⟩, Value.string ⟨#[60]⟩, Value.string ⟨#[62, 62]⟩, Value.string ⟨#[62, 38]⟩, Value.string ⟨#[62]⟩, Value.string ⟨#[38, 38]⟩, Value.string ⟨#[38]⟩, Value.string ⟨#[124, 124]⟩, Value.string ⟨#[124]⟩, Value.string ⟨#[59, 59]⟩, Value.string ⟨#[59]⟩, Value.string ⟨#[40]⟩, Value.string ⟨#[41]⟩]) (Value.int IntKind.i64 10)).run Tryd.prog w = .ok (.string ⟨#[124, 124]⟩) w := by kernel_rfl
theorem idx11 (w : World) : (Instr.index 82 (Value.agg #[Value.string ⟨#[60, 60, 45]⟩, Value.string ⟨#[60, 60]⟩, Value.string ⟨#[60, 38]⟩, Value.string ⟨#[60, 62]⟩, Value.string ⟨#[60]⟩, Value.string ⟨#[62, 62]⟩, Value.string ⟨#[62, 38]⟩, Value.string ⟨#[62]⟩, Value.string ⟨#[38, 38]⟩, Value.string ⟨#[38]⟩, Value.string ⟨#[124, 124]⟩, Value.string ⟨#[124]⟩, Value.string ⟨#[59, 59]⟩, Value.string ⟨#[59]⟩, Value.string ⟨#[40]⟩, Value.string ⟨#[41]⟩]) (Value.int IntKind.i64 11)).run Tryd.prog w = .ok (.string ⟨#[124]⟩) w := by kernel_rfl
theorem idx12 (w : World) : (Instr.index 82 (Value.agg #[Value.string ⟨#[60, 60, 45]⟩, Value.string ⟨#[60, 60]⟩, Value.string ⟨#[60, 38]⟩, Value.string ⟨#[60, 62]⟩, Value.string ⟨#[60]⟩, Value.string ⟨#[62, 62]⟩, Value.string ⟨#[62, 38]⟩, Value.string ⟨#[62]⟩, Value.string ⟨#[38, 38]⟩, Value.string ⟨#[38]⟩, Value.string ⟨#[124, 124]⟩, Value.string ⟨#[124]⟩, Value.string ⟨#[59, 59]⟩, Value.string ⟨#[59]⟩, Value.string ⟨#[40]⟩, Value.string ⟨#[41]⟩]) (Value.int IntKind.i64 12)).run Tryd.prog w = .ok (.string ⟨#[59, 59]⟩) w := by kernel_rfl
theorem idx13 (w : World) : (Instr.index 82 (Value.agg #[Value.string ⟨#[60, 60, 45]⟩, Value.string ⟨#[60, 60]⟩, Value.string ⟨#[60, 38]⟩, Value.string ⟨#[60, 62]⟩, Value.string ⟨#[60]⟩, Value.string ⟨#[62, 62]⟩, Value.string ⟨#[62, 38]⟩, Value.string ⟨#[62]⟩, Value.string ⟨#[38, 38]⟩, Value.string ⟨#[38]⟩, Value.string ⟨#[124, 124]⟩, Value.string ⟨#[124]⟩, Value.string ⟨#[59, 59]⟩, Value.string ⟨#[59]⟩, Value.string ⟨#[40]⟩, Value.string ⟨#[41]⟩]) (Value.int IntKind.i64 13)).run Tryd.prog w = .ok (.string ⟨#[59]⟩) w := by kernel_rfl
theorem idx14 (w : World) : (Instr.index 82 (Value.agg #[Value.string ⟨#[60, 60, 45]⟩, Value.string ⟨#[60, 60]⟩, Value.string ⟨#[60, 38]⟩, Value.string ⟨#[60, 62]⟩, Value.string ⟨#[60]⟩, Value.string ⟨#[62, 62]⟩, Value.string ⟨#[62, 38]⟩, Value.string ⟨#[62]⟩, Value.string ⟨#[38, 38]⟩, Value.string ⟨#[38]⟩, Value.string ⟨#[124, 124]⟩, Value.string ⟨#[124]⟩, Value.string ⟨#[59, 59]⟩, Value.string ⟨#[59]⟩, Value.string ⟨#[40]⟩, Value.string ⟨#[41]⟩]) (Value.int IntKind.i64 14)).run Tryd.prog w = .ok (.string ⟨#[40]⟩) w := by kernel_rfl
theorem idx15 (w : World) : (Instr.index 82 (Value.agg #[Value.string ⟨#[60, 60, 45]⟩, Value.string ⟨#[60, 60]⟩, Value.string ⟨#[60, 38]⟩, Value.string ⟨#[60, 62]⟩, Value.string ⟨#[60]⟩, Value.string ⟨#[62, 62]⟩, Value.string ⟨#[62, 38]⟩, Value.string ⟨#[62]⟩, Value.string ⟨#[38, 38]⟩, Value.string ⟨#[38]⟩, Value.string ⟨#[124, 124]⟩, Value.string ⟨#[124]⟩, Value.string ⟨#[59, 59]⟩, Value.string ⟨#[59]⟩, Value.string ⟨#[40]⟩, Value.string ⟨#[41]⟩]) (Value.int IntKind.i64 15)).run Tryd.prog w = .ok (.string ⟨#[41]⟩) w := by kernel_rfl

set_option maxRecDepth 20000 in
set_option maxHeartbeats 8000000 in
theorem operator_any (l : List UInt8) (w : World) (ho : OpsAt w) : Calls Tryd.prog 39 #[.string (BA l)] w fun e w' => e = .returned (.string (BA (opL l))) ∧ w' = w := by
  obtain ⟨a0, a1, a2, a3, a4, a5, a6, a7, a8, a9, a10, a11, a12, a13, a14, a15⟩ := ho
  go_enter Tryd.func39, Tryd.ntmps39
  go_wp2_with fail
  go_loop [6] (fun x => ∃ k : Int, x = .int .i64 k ∧ 0 ≤ k ∧ k ≤ 16 ∧ Hid (opFrom l k.toNat = opL l)) (fun x => 16 - (intOf x).toNat)
  case atStart => exact ⟨0, rfl, by decide, by decide, hide rfl⟩
  case round =>
    clear a0 a1 a2 a3 a4 a5 a6 a7 a8 a9 a10 a11 a12 a13 a14 a15
    obtain ⟨k, rfl, hk0, hk1, HK⟩ := hrel
    by_cases hk16 : k = 16
    · subst hk16
      have HR : Hid ([] = opL l) := HK
      clear HK
      go_wp2
      go_ret
      rw [← unhide HR]
      exact ⟨rfl, rfl⟩
    have hc : k = 0 ∨ k = 1 ∨ k = 2 ∨ k = 3 ∨ k = 4 ∨ k = 5 ∨ k = 6 ∨ k = 7 ∨ k = 8 ∨ k = 9 ∨ k = 10 ∨ k = 11 ∨ k = 12 ∨ k = 13 ∨ k = 14 ∨ k = 15 := by omega
    clear hk0 hk1 hk16
    rcases hc with rfl | rfl | rfl | rfl | rfl | rfl | rfl | rfl | rfl | rfl | rfl | rfl | rfl | rfl | rfl | rfl
    all_goals
      have hidx := idx0 w
      have hidx1 := idx1 w
      have hidx2 := idx2 w
      have hidx3 := idx3 w
      have hidx4 := idx4 w
      have hidx5 := idx5 w
      have hidx6 := idx6 w
      have hidx7 := idx7 w
      have hidx8 := idx8 w
      have hidx9 := idx9 w
      have hidx10 := idx10 w
      have hidx11 := idx11 w
      have hidx12 := idx12 w
      have hidx13 := idx13 w
      have hidx14 := idx14 w
      have hidx15 := idx15 w
      go_wp2_with fail
      refine (Tryd.strings_HasPrefix _ _ _).mono ?_
      rintro en w4 ⟨rfl, hw4⟩
      have hw5 := hw4.symm
      subst hw5
      clear hw4
      rw [BA_list]
      generalize hv : Lib.hasPrefix l _ = v
      cases v
      · have HN := hide ((opFrom_no rfl hv).symm.trans (unhide HK))
        clear hv
        go_wp2
        go_round
        case rel => exact ⟨_, rfl, by decide, by decide, HN⟩
        case measure => simp [intOf]
      · have HY := hide ((opFrom_yes rfl hv).symm.trans (unhide HK))
        clear hv
        go_wp2
        go_ret
        rw [← unhide HY]
        exact ⟨rfl, rfl⟩

/-- All bytes are Digits. -/
def digsB (l : List UInt8) : Bool := l.all (fun c => digB (c.toNat : Int))
set_option maxRecDepth 20000 in
set_option maxHeartbeats 4000000 in
theorem digits_any (s : ByteArray) (w : World) (hs : s.size ≤ 100000) : Calls Tryd.prog 53 #[.string s] w fun e w' => e = .returned (.bool (digsB s.data.toList)) ∧ w' = w := by
  go_enter Tryd.func53, Tryd.ntmps53
  go_wp2_with fail
  go_loop [6] (fun x => ∃ k : Nat, x = .int .i64 (k : Int) ∧ k ≤ s.size ∧ Hid (digsB (s.data.toList.drop k) = digsB s.data.toList)) (fun x => s.size - (intOf x).toNat)
  case atStart => exact ⟨0, rfl, Nat.zero_le _, hide rfl⟩
  case round =>
    obtain ⟨k, rfl, hks, HK⟩ := hrel
    by_cases hk : k < s.size
    · have hk' : (k : Int) < (s.size : Int) := by omega
      obtain ⟨k1, hk1⟩ : ∃ x, x = k + 1 := ⟨_, rfl⟩
      have hwk : IntKind.i64.wrap ((k : Int) + 1) = (k1 : Int) := by rw [IntKind.wrap_i64]; omega
      have hd : digsB (s.data.toList.drop k) = (digB (s[k].toNat : Int) && digsB (s.data.toList.drop k1)) := by rw [drop_at hk, hk1]; rfl
      have hk1s : k1 ≤ s.size ∧ k < k1 := by omega
      rcases Bool.eq_false_or_eq_true (digB (s[k].toNat : Int)) with hb | hb
      · have HN : Hid (digsB (s.data.toList.drop k1) = digsB s.data.toList) := hide (by rw [← unhide HK, hd, hb]; rfl)
        clear hd hk1
        go_wp2_with fail
        refine (digit_any _ _).mono ?_
        rintro en w4 ⟨rfl, hw4⟩
        have hw5 := hw4.symm
        subst hw5
        clear hw4
        rw [hb]
        clear hb
        go_wp2
        go_round
        case rel => exact ⟨k1, rfl, hk1s.1, HN⟩
        case measure => simp [intOf]; omega
      · have HN : Hid (digsB s.data.toList = false) := hide (by rw [← unhide HK, hd, hb]; rfl)
        clear hd hk1
        go_wp2_with fail
        refine (digit_any _ _).mono ?_
        rintro en w4 ⟨rfl, hw4⟩
        have hw5 := hw4.symm
        subst hw5
        clear hw4
        rw [hb]
        clear hb
        go_wp2
        go_ret
        rw [unhide HN]
        exact ⟨rfl, rfl⟩
    · have hk' : ¬ (k : Int) < (s.size : Int) := by omega
      have HN : Hid (digsB s.data.toList = true) := hide (by rw [← unhide HK, drop_nil (by omega)]; rfl)
      go_wp2
      go_ret
      rw [unhide HN]
      exact ⟨rfl, rfl⟩

end Go.Proofs.YtlmpdfeidjnmnaaDoor

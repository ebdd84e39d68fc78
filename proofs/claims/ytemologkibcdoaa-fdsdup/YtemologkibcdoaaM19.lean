/-
  Directories (stage 13): step.
  Directories (stage 13): along.
-/
import Derived.Test.YtemologkibcdoaaM18

/- Directories (stage 13): step. -/
namespace Go.Proofs.Ytemologkibcdoaa
open Go.RowKit Go.Maps

theorem txt_eq (p c : List UInt8) : ((BA p).toList == c) = decide (p = c) := by
  rw [ByteArray.toList_eq]
  show (p == c) = _
  by_cases h : p = c <;> simp [h]
theorem emp_eq (p : List UInt8) : (BA p).toList.isEmpty = decide (p = []) := by
  rw [ByteArray.toList_eq]
  show p.isEmpty = _
  cases p <;> simp
end Go.Proofs.Ytemologkibcdoaa

/- Directories (stage 13): along. -/
namespace Go.Proofs.Ytemologkibcdoaa
open Go.RowKit Go.Maps

theorem split_parts (p : List UInt8) : Lib.splitB ⟨#[47]⟩ 0 (Lib.countB (BA p) ⟨#[47]⟩) (BA p) = (partsOf p).map BA := by
  have h := Lib.splitB_data ⟨#[47]⟩ 0 (Lib.countB (BA p) ⟨#[47]⟩) (BA p)
  have h2 : Lib.splitK (⟨#[47]⟩ : ByteArray).data.toList 0 (Lib.countB (BA p) ⟨#[47]⟩) (BA p).data.toList = partsOf p := parts_split p
  rw [h2] at h
  rw [← h, List.map_map]
  exact (List.map_id'' (fun x => BA_of x) _).symm
theorem prefix_is (p : List UInt8) : Lib.hasPrefix p [47] = decide (p.head? = some 47) := by
  cases p with
  | nil => rfl
  | cons c l =>
    show List.isPrefixOf [47] (c :: l) = _
    by_cases h : c = 47
    · subst h; simp
    · simp [List.isPrefixOf, h]
      exact fun e => h e.symm
theorem loop_cons (go : Int → List UInt8 → Nat → Int × Int × Nat) (s : NS) (f : Bool) (p : List UInt8) (ps : List (List UInt8)) (a : Int) (r : Nat) (g : Bool) (hg : g = (f || !ps.isEmpty)) : loopN go s f (p :: ps) a r = if (stepN go s a p g r).2.1 ≠ 0 then stepN go s a p g r else loopN go s f ps (stepN go s a p g r).1 (stepN go s a p g r).2.2 := by
  cases ps with
  | nil =>
    have : g = f := by rw [hg]; simp
    subst this
    show stepN go s a p g r = _
    by_cases h : (stepN go s a p g r).2.1 ≠ 0
    · rw [if_pos h]
    · rw [if_neg h]
      have h : (stepN go s a p g r).2.1 = 0 := by simpa using h
      show _ = ((stepN go s a p g r).1, (0 : Int), (stepN go s a p g r).2.2)
      rw [← h]
  | cons q ps =>
    have : g = true := by rw [hg]; simp
    subst this
    rfl
end Go.Proofs.Ytemologkibcdoaa

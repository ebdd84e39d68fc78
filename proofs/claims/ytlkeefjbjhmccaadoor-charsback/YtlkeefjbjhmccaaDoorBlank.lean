/-
  The contracts of 'Blank' and 'Meta' (classes by a closure over a text).
-/
import Derived.Test.YtlkeefjbjhmccaaDoorSpan
import Derived.Test.YtlkeefjbjhmccaaDoorShelf
namespace Go.Proofs.YtlkeefjbjhmccaaDoor
open Go.RowKit

/-- Whether a byte is among a text's. -/
def amgB (l : List UInt8) (c : Int) : Bool := decide (0 ≤ Lib.indexByte l c.toNat.toUInt8)

set_option maxHeartbeats 400000 in
theorem among1_any (p : Nat) (s : ByteArray) (c : Int) (w : World) (hp : w.cell? ⟨p, 0, none⟩ = some (.string s)) :
    Calls Tryd.prog 40 #[.int .u8 c, .pointer (some ⟨p, 0, none⟩)] w fun e w' => e = .returned (.bool (amgB s.data.toList c)) ∧ w' = w := by
  go_enter Tryd.func40, Tryd.ntmps40
  go_wp2_with (go_at_call 41; refine (Tryd.strings_IndexByte _ _ _).mono ?_; rintro e w' ⟨rfl, rfl⟩)
  go_ret
  exact ⟨rfl, rfl⟩

set_option maxHeartbeats 400000 in
theorem among_any (s : ByteArray) (w : World) :
    Calls Tryd.prog 32 #[.string s] w fun e w' => e = .returned (.func (Fn.func 40) #[] #[.pointer (some ⟨w.heap.size, 0, none⟩)]) ∧ w' = w.alloc (.cells #[.string s] 9) := by
  go_enter Tryd.func32, Tryd.ntmps32
  go_wp2
  go_ret
  exact ⟨rfl, rfl⟩

set_option maxHeartbeats 400000 in
theorem blank_any (c : Int) (w : World) :
    Calls Tryd.prog 9 #[.int .u8 c] w fun e w' => e = .returned (.bool (amgB [32, 9] c)) ∧ Below w.heap.size w w' := by
  go_enter Tryd.func9, Tryd.ntmps9
  go_wp2_with fail
  refine (among_any _ _).mono ?_
  rintro e w' ⟨rfl, rfl⟩
  go_wp2_with fail
  refine (among1_any _ ⟨#[32, 9]⟩ _ _ (by go_simp)).mono ?_
  rintro e w' ⟨rfl, rfl⟩
  go_wp2
  go_ret
  exact ⟨rfl, (Below.refl _ _).alloc (Nat.le_refl _) _⟩

theorem amg_blank_all : ((List.range 256).all fun n => amgB [32, 9] (n : Int) == blkB (n : Int)) = true := by kernel_rfl
theorem amg_meta_all : ((List.range 256).all fun n => (blkB (n : Int) || amgB [10, 124, 38, 59, 60, 62, 40, 41] (n : Int)) == metB (n : Int)) = true := by kernel_rfl
theorem amg_blank (c : Int) (h0 : 0 ≤ c) (h1 : c ≤ 255) : amgB [32, 9] c = blkB c := by
  obtain ⟨n, rfl⟩ : ∃ n : Nat, c = n := ⟨c.toNat, by omega⟩
  simpa using List.all_eq_true.1 amg_blank_all n (List.mem_range.2 (by omega))
theorem amg_meta (c : Int) (h0 : 0 ≤ c) (h1 : c ≤ 255) : (blkB c || amgB [10, 124, 38, 59, 60, 62, 40, 41] c) = metB c := by
  obtain ⟨n, rfl⟩ : ∃ n : Nat, c = n := ⟨c.toNat, by omega⟩
  exact beq_iff_eq.1 (List.all_eq_true.1 amg_meta_all n (List.mem_range.2 (by omega)))

set_option maxHeartbeats 400000 in
theorem meta_any (c : Int) (w : World) (h0 : 0 ≤ c) (h1 : c ≤ 255) :
    Calls Tryd.prog 15 #[.int .u8 c] w fun e w' => e = .returned (.bool (metB c)) ∧ Below w.heap.size w w' := by
  rcases Bool.eq_false_or_eq_true (amgB [32, 9] c) with hb | hb
  · go_enter Tryd.func15, Tryd.ntmps15
    go_wp2_with fail
    refine (blank_any _ _).mono ?_
    rintro e w1 ⟨rfl, b1⟩
    go_wp2_with fail
    go_ret
    exact ⟨ret_bool (by rw [← amg_meta c h0 h1, ← amg_blank c h0 h1, hb]; rfl), b1⟩
  · go_enter Tryd.func15, Tryd.ntmps15
    go_wp2_with fail
    refine (blank_any _ _).mono ?_
    rintro e w1 ⟨rfl, b1⟩
    go_wp2_with fail
    refine (among_any _ _).mono ?_
    rintro e w' ⟨rfl, rfl⟩
    go_wp2_with fail
    refine (among1_any _ ⟨#[10, 124, 38, 59, 60, 62, 40, 41]⟩ _ _ (by go_simp)).mono ?_
    rintro e w' ⟨rfl, rfl⟩
    go_wp2_with fail
    go_ret
    exact ⟨ret_bool (by rw [← amg_meta c h0 h1, ← amg_blank c h0 h1, hb]; rfl), b1.alloc b1.size _⟩

end Go.Proofs.YtlkeefjbjhmccaaDoor

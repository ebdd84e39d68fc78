/-
  FilesNil: of a nil tree nothing is opened, and a nil file has nothing.
-/
import Derived.Test.YtnpeiibecihleaaGreatDoorM23
import Derived.Test.YtnpeiibecihleaaGreatDoorM22
namespace Go.Proofs.YtnpeiibecihleaaGreatDoor
open Go.RowKit Go.Maps

set_option maxRecDepth 20000 in
theorem froot_nil (w : World) : Calls Tryz.prog 73 #[.pointer none] w fun e w' => e = .returned (.int .i64 0) ∧ w' = w := by
  go_enter Tryz.func73, Tryz.ntmps73
  go_wp2_with fail
  refine (empty_nil w).mono ?_
  rintro e w1 ⟨rfl, rfl⟩
  go_wp2_with fail
  go_ret
  exact ⟨rfl, rfl⟩
set_option maxRecDepth 20000 in
theorem fnil_yes (w : World) : Calls Tryz.prog 32 #[.pointer none] w fun e w' => e = .returned (.bool true) ∧ w' = w := by
  go_enter Tryz.func32, Tryz.ntmps32
  go_wp2_with fail
  refine (froot_nil w).mono ?_
  rintro e w1 ⟨rfl, rfl⟩
  go_wp2_with fail
  go_ret
  exact ⟨rfl, rfl⟩
set_option maxRecDepth 20000 in
theorem fopen_nil (d fl : Int) (p : List UInt8) (w : World) : Calls Tryz.prog 12 #[.pointer none, .int .i64 d, .string (BA p), .int .i64 fl] w fun e w' => e = .returned (.tuple #[.pointer none, .int .i64 2]) ∧ w' = w := by
  go_enter Tryz.func12, Tryz.ntmps12
  go_wp2_with fail
  refine (fnil_yes w).mono ?_
  rintro e w1 ⟨rfl, rfl⟩
  go_wp2_with fail
  go_ret2
  exact ⟨rfl, rfl⟩
set_option maxRecDepth 20000 in
theorem xread_nil (m : Int) (w : World) : Calls Tryz.prog 21 #[.pointer none, .int .i64 m] w fun e w' => e = .returned (.tuple #[.string ⟨#[]⟩, .int .i64 2]) ∧ w' = w := by
  go_enter Tryz.func21, Tryz.ntmps21
  go_wp2_with fail
  refine (frefuse_nil 1 w).mono ?_
  rintro e w1 ⟨rfl, rfl⟩
  go_wp2_with fail
  go_ret2
  exact ⟨rfl, rfl⟩
set_option maxRecDepth 20000 in
theorem xwrite_nil (d : List UInt8) (w : World) : Calls Tryz.prog 20 #[.pointer none, .string (BA d)] w fun e w' => e = .returned (.tuple #[.int .i64 0, .int .i64 2]) ∧ w' = w := by
  go_enter Tryz.func20, Tryz.ntmps20
  go_wp2_with fail
  refine (frefuse_nil 2 w).mono ?_
  rintro e w1 ⟨rfl, rfl⟩
  go_wp2_with fail
  go_ret2
  exact ⟨rfl, rfl⟩
set_option maxRecDepth 20000 in
theorem xclose_nil (w : World) : Calls Tryz.prog 26 #[.pointer none] w fun e w' => e = .returned (.int .i64 2) ∧ w' = w := by
  go_enter Tryz.func26, Tryz.ntmps26
  go_wp2_with fail
  refine (frefuse_nil 0 w).mono ?_
  rintro e w1 ⟨rfl, rfl⟩
  go_wp2_with fail
  go_ret
  exact ⟨rfl, rfl⟩
set_option maxRecDepth 20000 in
theorem xat_nil (w : World) : Calls Tryz.prog 22 #[.pointer none] w fun e w' => e = .returned (.int .i64 0) ∧ w' = w := by
  go_enter Tryz.func22, Tryz.ntmps22
  go_wp2_with fail
  go_ret
  exact ⟨rfl, rfl⟩
set_option maxRecDepth 20000 in
theorem xnode_nil (w : World) : Calls Tryz.prog 25 #[.pointer none] w fun e w' => e = .returned (.int .i64 0) ∧ w' = w := by
  go_enter Tryz.func25, Tryz.ntmps25
  go_wp2_with fail
  go_ret
  exact ⟨rfl, rfl⟩
set_option maxRecDepth 20000 in
set_option maxHeartbeats 1000000 in
theorem filesnil_walk (p : List UInt8) (n : Int) (w : World) (E : EnvB w (Bas.of w)) : Calls Tryz.prog 7 #[.string (BA p), .int .i64 n] w fun e w' => e = .returned (.bool true) ∧ Below w.heap.size w w' := by
  have HA : Hid (∀ W, Below w.heap.size w W → Calls Tryz.prog 10 #[] W fun e w' => e = .returned (.bool true) ∧ Below w.heap.size w w') := hide (fun W hW => (awake14_any W (E.below hW).self).mono (fun e w' h => ⟨h.1, hW.trans (h.2.mono hW.size)⟩))
  obtain ⟨A, hA⟩ : ∃ A, A = BA p := ⟨_, rfl⟩
  have HO := hide (fun W => fopen_nil n n p W)
  have HWR := hide (fun W => xwrite_nil p W)
  rw [← hA] at HO HWR ⊢
  clear E hA
  go_enter Tryz.func7, Tryz.ntmps7
  go_wp2_with fail
  refine (unhide HO _).mono ?_
  rintro e w1 ⟨rfl, h1⟩
  subst h1
  go_wp2_with fail
  refine (xread_nil n _).mono ?_
  rintro e w1 ⟨rfl, h1⟩
  subst h1
  go_wp2_with fail
  refine (unhide HWR _).mono ?_
  rintro e w1 ⟨rfl, h1⟩
  subst h1
  go_wp2_with fail
  refine (xat_nil _).mono ?_
  rintro e w1 ⟨rfl, h1⟩
  subst h1
  go_wp2_with fail
  refine (xnode_nil _).mono ?_
  rintro e w1 ⟨rfl, h1⟩
  subst h1
  go_wp2_with fail
  refine (xclose_nil _).mono ?_
  rintro e w1 ⟨rfl, h1⟩
  subst h1
  go_wp2_with fail
  refine (unhide HA _ (Below.refl _ _)).mono ?_
  rintro e w1 ⟨rfl, h1⟩
  have HB := hide h1
  clear h1
  go_wp2_with fail
  go_ret
  exact ⟨rfl, unhide HB⟩

end Go.Proofs.YtnpeiibecihleaaGreatDoor

/-
  A text in place: the lexer's 'takeUp'.
-/
import Derived.Test.YtlmpdfeidjnmnaaDoorLexL
namespace Go.Proofs.YtlmpdfeidjnmnaaDoor
open Go.RowKit

/-- An awaited text in place, in the block k. -/
def wtCells (q : Nat) (en : ByteArray) (tabs : Bool) : Array Value := #[.pointer (some ⟨q, 0, none⟩), .string en, .bool tabs]

set_option maxRecDepth 20000 in
set_option maxHeartbeats 4000000 in
theorem takeUp_bad (w : World) (b : Nat) (tl : List Value) (s : ByteArray) (p d : Nat) (f bl : Int) (k q : Nat) (en : ByteArray) (tabs : Bool) (t : Tok) (h : Rdr w b 53 tl s p d f bl) (hf : f ≠ 0) (hk : Blk w k 57 (wtCells q en tabs)) (hq : Blk w q 37 t.cells) :
    Calls Tryd.prog 51 #[.pointer (some ⟨b, 0, none⟩), .pointer (some ⟨k, 0, none⟩)] w fun e w' => e = .returned (.tuple #[]) ∧ Below w.heap.size w w' := by
  have hmb : moreB s p f = false := by unfold moreB; rw [show (f == 0) = false by simpa using hf]; rfl
  obtain ⟨o, ho⟩ : ∃ o, o = Obj.cells #[.pointer none, .slice none 0 0] 89 := ⟨_, rfl⟩
  have h' := h.kept (World.grownBy_alloc w o none)
  have hmo := more_any h'
  rw [hmb] at hmo
  have HMO := hide hmo
  have H' := hide h'
  have k0 : (w.alloc o).cell? ⟨k, 0, none⟩ = some (.pointer (some ⟨q, 0, none⟩)) := (hk.alloc o).cell 0 rfl
  have q2 : (w.alloc o).cell? ⟨q, 2, none⟩ = some (.int .i64 t.pos) := (hq.alloc o).cell 2 rfl
  have HB := hide ((Below.refl w.heap.size w).alloc (Nat.le_refl _) o)
  clear hmo hmb h h' hk hq
  go_enter Tryd.func51, Tryd.ntmps51
  go_wp2_with fail
  rw [← ho]
  obtain ⟨wA, hwA⟩ : ∃ x, x = w.alloc o := ⟨_, rfl⟩
  rw [← hwA] at HMO H' k0 q2 HB
  rw [← hwA]
  clear hwA ho
  go_loopw [9] (fun _ wr => wr = wA) (fun _ _ => 0)
  case atStart => rfl
  case round =>
    subst hrel
    go_wp2_with fail
    refine (unhide HMO).mono ?_
    rintro en w1 ⟨rfl, k1, hw1⟩
    have k0' : w1.cell? ⟨k, 0, none⟩ = some (.pointer (some ⟨q, 0, none⟩)) := by rw [hw1]; exact k0
    have q2' : w1.cell? ⟨q, 2, none⟩ = some (.int .i64 t.pos) := by rw [hw1]; exact q2
    have HF := hide (fun n => fail_not 12 t.pos (show Rdr (w1.drewN n) b 53 tl s p d f bl by rw [hw1]; exact ((unhide H').kept (grown_drewN _ _)).kept (grown_drewN _ _)) hf)
    have HB' : Hid (Below w.heap.size w w1) := hide (by rw [hw1]; exact (unhide HB).trans ((below_drew _ _).mono (unhide HB).size))
    clear hw1 k0 q2 hf HMO H' HB
    go_wp2_with fail
    go_quiet ((go_at_call 21; exact Calls.quiet_of_same (unhide HF _)))
    go_wp2
    refine bodyPost_end (res0 rfl _ _) rfl ?_
    exact ⟨rfl, (unhide HB').trans ((below_drew _ _).mono (unhide HB').size)⟩

end Go.Proofs.YtlmpdfeidjnmnaaDoor

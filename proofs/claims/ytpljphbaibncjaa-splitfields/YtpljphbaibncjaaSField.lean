/-
  (*making).field: the field of these bytes.
-/
import Derived.Test.YtpljphbaibncjaaSAdd
import Derived.Deep.RegionHeld3
import Derived.Laws.ResultCell
namespace Go.Proofs.Ytpljphbaibncjaa
open Go.RowKit

set_option maxRecDepth 20000 in
set_option maxHeartbeats 4000000 in
theorem field_any (w : World) (B b : Nat) (tv qv : Value) (tl : List UInt8) (ql : List Bool) (hb : Blk w b 50 #[tv, qv]) (ht : OwnB w B tv tl) (hq : OwnQ w B qv ql) :
    Calls Try.prog 20 #[.pointer (some ⟨b, 0, none⟩)] w fun e w' => e = .returned (.agg #[.string (BA tl), qv]) ∧ Below w.heap.size w w' := by
  obtain ⟨ba, bn, bc, rfl⟩ := slice_own ht
  obtain ⟨qa, qn, qc, rfl⟩ := slice_own hq
  have c0 : w.cell? ⟨b, 0, none⟩ = some (.slice ba bn bc) := hb.cell 0 rfl
  have c1 : w.cell? ⟨b, 1, none⟩ = some (.slice qa qn qc) := hb.cell 1 rfl
  have hlt := hb.lt
  have ht2 : OwnB (w.alloc (.cells #[.string ⟨#[]⟩, .slice none 0 0] 34)).drew B (.slice ba bn bc) tl := own_drew (World.ownsRow.alloc ht _)
  have hcv := ht2.text
  clear hb ht hq ht2
  go_enter Try.func20, Try.ntmps20
  go_wp2
  go_region
  go_wp2
  refine bodyPost_ret (results_cell_row (P := Try.prog) rfl _ _ w.heap.size 34 _ (0, 0) _ rfl (show (w.alloc _).heap[w.heap.size]? = _ from heap_alloc_new _ _) Try.underlying34 rfl (by kernel_rfl)) rfl ⟨rfl, ((Below.refl _ w).alloc (Nat.le_refl _) _).trans ((below_drew _ 1).mono (by simp))⟩

end Go.Proofs.Ytpljphbaibncjaa

/-
  ParseShaped: the law's own shaped, kind by kind (1).
-/
import Derived.Test.YtnamineofpeahaaGreatDoorM35
import Derived.Test.YtnamineofpeahaaGreatDoorM14
namespace Go.Proofs.YtnamineofpeahaaGreatDoor
open Go.RowKit

/-- Where the Redirs of a command lie, and that they are as they should be. -/
def RdsAt (w : World) (ad : Option Addr) (n : Nat) : Prop := ∀ i, i < n → ∃ (g : Nat) (fd kd : Int) (va : Option Addr) (vn vc : Nat), ad = some ⟨g, 0, none⟩ ∧ w.cell? ⟨g, i * 3, none⟩ = some (.int .i64 fd) ∧ w.cell? ⟨g, i * 3 + 1, none⟩ = some (.int .i64 kd) ∧ w.cell? ⟨g, i * 3 + 2, none⟩ = some (.slice va vn vc) ∧ g < w.heap.size ∧ ((0 ≤ fd ∧ fd ≤ 999) ∧ 1 ≤ kd ∧ kd ≤ 6)
theorem RdsAt.below {w w' : World} {ad : Option Addr} {n : Nat} (h : RdsAt w ad n) (hb : Below w.heap.size w w') : RdsAt w' ad n := fun i hi => by
 obtain ⟨g, fd, kd, va, vn, vc, h1, h2, h3, h4, h5, h6⟩ := h i hi
 exact ⟨g, fd, kd, va, vn, vc, h1, (hb.cell h5).trans h2, (hb.cell h5).trans h3, (hb.cell h5).trans h4, Nat.lt_of_lt_of_le h5 hb.size, h6⟩
set_option maxRecDepth 20000 in
set_option maxHeartbeats 8000000 in
theorem shp_1 (w : World) (al aw ar ac ai : Option Addr) (cl cw cr cc ci a b r n i : Nat) (k : Int) (no ev : Bool) (m : ByteArray) (hk : (k = 1 ∧ no = false ∧ n = 0 ∧ m = ⟨#[]⟩ ∧ ev = false ∧ i = 0 ∧ 0 < a + b + r ∧ a + b + r ≤ 5000) ∨ (k = 2 ∧ a = 0 ∧ b = 0 ∧ n = 1 ∧ m = ⟨#[]⟩ ∧ ev = false ∧ i = 0 ∧ no = true ∧ r = 0) ∨ (k = 2 ∧ a = 0 ∧ b = 0 ∧ m = ⟨#[]⟩ ∧ ev = false ∧ i = 0 ∧ no = true ∧ 1 < n ∧ r = 0) ∨ (k = 2 ∧ a = 0 ∧ b = 0 ∧ m = ⟨#[]⟩ ∧ ev = false ∧ i = 0 ∧ no = false ∧ 1 < n ∧ r = 0) ∨ (k = 3 ∧ no = false ∧ a = 0 ∧ b = 0 ∧ n = 2 ∧ m = ⟨#[]⟩ ∧ ev = false ∧ i = 0 ∧ r = 0)) (hrr : r ≤ 5000) (hr : RdsAt w ar r) : Calls Tryz.prog 32 #[.agg #[.int .i64 k, .bool no, .slice al a cl, .slice aw b cw, .slice ar r cr, .slice ac n cc, .string m, .bool ev, .slice ai i ci]] w fun e w' => e = .returned (.bool true) ∧ Below w.heap.size w w' := by
 have HRW : Hid (∀ W, Below w.heap.size w W → RdsAt W ar r) := hide (fun W h => hr.below h)
 obtain ⟨W, hW⟩ : ∃ W, W = w.alloc (.cells #[.int .i64 k, .bool no, .slice al a cl, .slice aw b cw, .slice ar r cr, .slice ac n cc, .string m, .bool ev, .slice ai i ci] 32) := ⟨_, rfl⟩
 obtain ⟨nb, hnb⟩ : ∃ nb, nb = w.heap.size := ⟨_, rfl⟩
 have HBW : Hid (Below w.heap.size w W) := hide (by rw [hW]; exact (Below.refl _ _).alloc (Nat.le_refl _) _)
 have HBK : Hid (Blk W nb 32 #[.int .i64 k, .bool no, .slice al a cl, .slice aw b cw, .slice ar r cr, .slice ac n cc, .string m, .bool ev, .slice ai i ci]) := hide (by rw [hW, hnb]; exact Blk.new _ _ _)
 have HNB : Hid (w.heap.size ≤ nb) := hide (by rw [hnb]; exact Nat.le_refl _)
 have HGN : Hid (∀ g q, q < r → ar = some ⟨g, 0, none⟩ → g ≠ nb) := hide (fun g q hq e e2 => by
  obtain ⟨g', _, _, _, _, _, h1, _, _, _, h5, _⟩ := hr q hq
  rw [e] at h1
  injection h1 with h1
  injection h1 with h1
  omega)
 have HW := hide hW
 have HN := hide hnb
 clear hr hW hnb
 rcases hk with ⟨rfl, rfl, rfl, rfl, rfl, rfl, h, h2⟩ | ⟨rfl, rfl, rfl, rfl, rfl, rfl, rfl, rfl, r0⟩ | ⟨rfl, rfl, rfl, rfl, rfl, rfl, rfl, h, r0⟩ | ⟨rfl, rfl, rfl, rfl, rfl, rfl, rfl, h, r0⟩ | ⟨rfl, rfl, rfl, rfl, rfl, rfl, rfl, rfl, r0⟩
 all_goals
  try (have HR0 := hide r0; clear r0)
  go_enter Tryz.func32, Tryz.ntmps32
  go_upto_region 1 with fail
  rw [← uh HW, ← uh HN]
  clear HW HN
  obtain ⟨c0, c1, c2, c3, c4, c5, c6, c7, c8⟩ := cel9 (uh HBK)
  try have hd1 : decide ((0 : Int) < (a : Int) + (b : Int) + (r : Int)) = true := by rw [decide_eq_true_eq]; omega
  try have hd2 : decide ((1 : Int) < (n : Int)) = true := by rw [decide_eq_true_eq]; omega
  try have hd3 : decide ((0 : Int) < (i : Int)) = true := by rw [decide_eq_true_eq]; omega
  try have hm1 : (m.toList == []) = false := by rw [beq_eq_false_iff_ne]; exact hm
  go_wp2_with fail
  clear c0 c1 c2 c3 c4 c5 c6 c7 c8
  go_loopw [4] (fun i wr => ∃ q : Nat, i = .int .i64 (q : Int) ∧ q ≤ r ∧ Hid (wr.heap[nb]? = W.heap[nb]? ∧ nb < wr.heap.size ∧ Below w.heap.size w wr)) (fun i _ => r - (intOf i).toNat)
  case atStart => exact ⟨0, rfl, Nat.zero_le _, hide ⟨rfl, (uh HBK).lt, uh HBW⟩⟩
  case round =>
   obtain ⟨q, rfl, hq, HB⟩ := hrel
   have hbk := (uh HB).1.trans (uh HBK)
   have d0 : wr.cell? ⟨nb, 0, none⟩ = some (.int .i64 _) := Blk.cell hbk 0 rfl
   have d1 : wr.cell? ⟨nb, 1, none⟩ = some (.bool _) := Blk.cell hbk 1 rfl
   have d2 : wr.cell? ⟨nb, 2, none⟩ = some (.slice _ _ _) := Blk.cell hbk 2 rfl
   have d3 : wr.cell? ⟨nb, 3, none⟩ = some (.slice _ _ _) := Blk.cell hbk 3 rfl
   have d4 : wr.cell? ⟨nb, 4, none⟩ = some (.slice _ _ _) := Blk.cell hbk 4 rfl
   have d5 : wr.cell? ⟨nb, 5, none⟩ = some (.slice _ _ _) := Blk.cell hbk 5 rfl
   have d6 : wr.cell? ⟨nb, 6, none⟩ = some (.string _) := Blk.cell hbk 6 rfl
   have d7 : wr.cell? ⟨nb, 7, none⟩ = some (.bool _) := Blk.cell hbk 7 rfl
   have d8 : wr.cell? ⟨nb, 8, none⟩ = some (.slice _ _ _) := Blk.cell hbk 8 rfl
   clear hbk
   by_cases hqr : q < r
   ·obtain ⟨g, fd, kd, va, vn, vc, rfl, e0, e1, e2, hg, ⟨hf0, hf1⟩, hk0, hk1⟩ := uh HRW _ (uh HB).2.2 q hqr
    have hgn := uh HGN g q hqr rfl
    have hqi : (q : Int) < (r : Int) := by omega
    clear HGN
    go_wp2_with fail
    go_roundw
    case rel => exact ⟨q + 1, by go_num, by omega, hide ⟨(heap_alloc_old _ _ (uh HB).2.1).trans (uh HB).1, by simp; have := (uh HB).2.1; omega, (uh HB).2.2.alloc (uh HB).2.2.size _⟩⟩
    case measure => simp [intOf]; omega
   ·have hqi : ¬ (q : Int) < (r : Int) := by omega
    try have hr0 : ((r : Int) == 0) = true := by rw [uh HR0]; rfl
    go_wp2_with fail
    go_ret
    exact ⟨rfl, (uh HB).2.2⟩

end Go.Proofs.YtnamineofpeahaaGreatDoor

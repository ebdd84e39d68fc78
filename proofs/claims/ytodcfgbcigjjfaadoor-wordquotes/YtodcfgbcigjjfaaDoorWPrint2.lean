/-
  A plain Var in quotes is written: brace, dollar, part.
-/
import Derived.Test.YtodcfgbcigjjfaaDoorWPrint1
namespace Go.Proofs.YtodcfgbcigjjfaaDoor
open Go.RowKit

set_option maxRecDepth 20000 in
set_option maxHeartbeats 4000000 in
theorem pbrace_zero (t : List UInt8) (w : World) (b : Nat) (X : Nat → Prop) (l : List UInt8) (he : WEnv w) (hb3 : 3 ≤ b) (h : Pg w b X l) (hl : l.length + t.length ≤ 100000) :
    Calls Tryd.prog 45 #[.pointer (some ⟨b, 0, none⟩), .agg #[.int .i64 2, .string (BA t), .bool true, .int .i64 0, .bool false, .slice none 0 0], (.agg #[.func (Fn.func 24) #[] #[], .string ⟨#[34]⟩, .func (Fn.func 25) #[] #[]])] w fun e w' => e = .returned (.tuple #[]) ∧ Puts w b X (l ++ [36, 123] ++ t ++ [] ++ [125]) w' := by
  have hbw := h.lt
  have h2w := he.two
  have hXq0 : ¬ X w.heap.size := fun e => by have := h.hi _ e; omega
  have hXq1 : ¬ X (w.heap.size + 1) := fun e => by have := h.hi _ e; omega
  have hlo := h.lo
  have hbel : Below w.heap.size w ((w.alloc (.cells #[.int .i64 2, .string (BA t), .bool true, .int .i64 0, .bool false, .slice none 0 0] 35)).alloc (.cells #[.func (Fn.func 24) #[] #[], .string ⟨#[34]⟩, .func (Fn.func 25) #[] #[]] 43)) := ((Below.refl _ w).alloc (Nat.le_refl _) _).alloc (by simp) _
  have hB0 : Blk ((w.alloc (.cells #[.int .i64 2, .string (BA t), .bool true, .int .i64 0, .bool false, .slice none 0 0] 35)).alloc (.cells #[.func (Fn.func 24) #[] #[], .string ⟨#[34]⟩, .func (Fn.func 25) #[] #[]] 43)) w.heap.size 35 #[.int .i64 2, .string (BA t), .bool true, .int .i64 0, .bool false, .slice none 0 0] := (Blk.new w _ _).alloc _
  have hN0 : Blk ((w.alloc (.cells #[.int .i64 2, .string (BA t), .bool true, .int .i64 0, .bool false, .slice none 0 0] 35)).alloc (.cells #[.func (Fn.func 24) #[] #[], .string ⟨#[34]⟩, .func (Fn.func 25) #[] #[]] 43)) (w.heap.size + 1) 43 #[.func (Fn.func 24) #[] #[], .string ⟨#[34]⟩, .func (Fn.func 25) #[] #[]] := by
    have := Blk.new (w.alloc (.cells #[.int .i64 2, .string (BA t), .bool true, .int .i64 0, .bool false, .slice none 0 0] 35)) 43 #[.func (Fn.func 24) #[] #[], .string ⟨#[34]⟩, .func (Fn.func 25) #[] #[]]
    rwa [show (w.alloc (.cells #[.int .i64 2, .string (BA t), .bool true, .int .i64 0, .bool false, .slice none 0 0] 35)).heap.size = w.heap.size + 1 by simp] at this
  have HS0 : Hid (Pg ((w.alloc (.cells #[.int .i64 2, .string (BA t), .bool true, .int .i64 0, .bool false, .slice none 0 0] 35)).alloc (.cells #[.func (Fn.func 24) #[] #[], .string ⟨#[34]⟩, .func (Fn.func 25) #[] #[]] 43)) b X l ∧ GrownS w ((w.alloc (.cells #[.int .i64 2, .string (BA t), .bool true, .int .i64 0, .bool false, .slice none 0 0] 35)).alloc (.cells #[.func (Fn.func 24) #[] #[], .string ⟨#[34]⟩, .func (Fn.func 25) #[] #[]] 43)) X ∧ (∀ k, X k → X k ∨ w.heap.size ≤ k) ∧ (Blk ((w.alloc (.cells #[.int .i64 2, .string (BA t), .bool true, .int .i64 0, .bool false, .slice none 0 0] 35)).alloc (.cells #[.func (Fn.func 24) #[] #[], .string ⟨#[34]⟩, .func (Fn.func 25) #[] #[]] 43)) w.heap.size 35 #[.int .i64 2, .string (BA t), .bool true, .int .i64 0, .bool false, .slice none 0 0] ∧ ¬ X w.heap.size) ∧ (Blk ((w.alloc (.cells #[.int .i64 2, .string (BA t), .bool true, .int .i64 0, .bool false, .slice none 0 0] 35)).alloc (.cells #[.func (Fn.func 24) #[] #[], .string ⟨#[34]⟩, .func (Fn.func 25) #[] #[]] 43)) (w.heap.size + 1) 43 #[.func (Fn.func 24) #[] #[], .string ⟨#[34]⟩, .func (Fn.func 25) #[] #[]] ∧ ¬ X (w.heap.size + 1))) := hide ⟨h.below hbel, grownS_of_below hbel, fun _ h => .inl h, ⟨hB0, hXq0⟩, hN0, hXq1⟩
  have HE := hide he
  have HLO := hide hlo
  clear he h hXq0 hXq1 hbel hB0 hN0 hlo
  go_enter Tryd.func45, Tryd.ntmps45
  go_wp2_with fail
  refine (put_new [36, 123] _ _ b _ (l) (by first | rfl | simp) (unhide HS0).1 (by simp; omega)).mono ?_
  rintro e w1 ⟨rfl, a1⟩
  obtain ⟨X1, hP, hG, hX⟩ := a1
  have HS1 : Hid (Pg w1 b X1 (l ++ [36, 123]) ∧ GrownS w w1 X ∧ (∀ k, X1 k → X k ∨ w.heap.size ≤ k) ∧ (Blk w1 w.heap.size 35 #[.int .i64 2, .string (BA t), .bool true, .int .i64 0, .bool false, .slice none 0 0] ∧ ¬ X1 w.heap.size) ∧ (Blk w1 (w.heap.size + 1) 43 #[.func (Fn.func 24) #[] #[], .string ⟨#[34]⟩, .func (Fn.func 25) #[] #[]] ∧ ¬ X1 (w.heap.size + 1))) := hide ⟨hP, (unhide HS0).2.1.trans2 hG (fun k hk e => by
      rcases (unhide HS0).2.2.1 k e with e | e
      · exact e
      · omega), fun k hk => by
      rcases hX k hk with e | e
      · exact (unhide HS0).2.2.1 k e
      · exact .inr (Nat.le_trans (unhide HS0).2.1.size e), blk_puts (unhide HS0).2.2.2.1.1 hG hX (unhide HS0).2.2.2.1.2, blk_puts (unhide HS0).2.2.2.2.1 hG hX (unhide HS0).2.2.2.2.2⟩
  have p0 : w1.cell? ⟨w.heap.size, 0, none⟩ = some (.int .i64 2) := (unhide HS1).2.2.2.1.1.cell 0 rfl
  have p1 : w1.cell? ⟨w.heap.size, 1, none⟩ = some (.string (BA t)) := (unhide HS1).2.2.2.1.1.cell 1 rfl
  have p2 : w1.cell? ⟨w.heap.size, 2, none⟩ = some (.bool true) := (unhide HS1).2.2.2.1.1.cell 2 rfl
  have p3 : w1.cell? ⟨w.heap.size, 3, none⟩ = some (.int .i64 0) := (unhide HS1).2.2.2.1.1.cell 3 rfl
  have p4 : w1.cell? ⟨w.heap.size, 4, none⟩ = some (.bool false) := (unhide HS1).2.2.2.1.1.cell 4 rfl
  have p5 : w1.cell? ⟨w.heap.size, 5, none⟩ = some (.slice none 0 0) := (unhide HS1).2.2.2.1.1.cell 5 rfl
  have n0 : w1.cell? ⟨w.heap.size + 1, 0, none⟩ = some (.func (Fn.func 24) #[] #[]) := (unhide HS1).2.2.2.2.1.cell 0 rfl
  have n1 : w1.cell? ⟨w.heap.size + 1, 1, none⟩ = some (.string ⟨#[34]⟩) := (unhide HS1).2.2.2.2.1.cell 1 rfl
  have n2 : w1.cell? ⟨w.heap.size + 1, 2, none⟩ = some (.func (Fn.func 25) #[] #[]) := (unhide HS1).2.2.2.2.1.cell 2 rfl
  clear hP hG hX
  go_wp2_with fail
  refine (put_new t _ _ b _ (l ++ [36, 123]) (by first | rfl | simp) (unhide HS1).1 (by simp; omega)).mono ?_
  rintro e w2 ⟨rfl, a2⟩
  clear p0 p1 p2 p3 p4 p5 n0 n1 n2
  obtain ⟨X2, hP, hG, hX⟩ := a2
  have HS2 : Hid (Pg w2 b X2 (l ++ [36, 123] ++ t) ∧ GrownS w w2 X ∧ (∀ k, X2 k → X k ∨ w.heap.size ≤ k) ∧ (Blk w2 w.heap.size 35 #[.int .i64 2, .string (BA t), .bool true, .int .i64 0, .bool false, .slice none 0 0] ∧ ¬ X2 w.heap.size) ∧ (Blk w2 (w.heap.size + 1) 43 #[.func (Fn.func 24) #[] #[], .string ⟨#[34]⟩, .func (Fn.func 25) #[] #[]] ∧ ¬ X2 (w.heap.size + 1))) := hide ⟨hP, (unhide HS1).2.1.trans2 hG (fun k hk e => by
      rcases (unhide HS1).2.2.1 k e with e | e
      · exact e
      · omega), fun k hk => by
      rcases hX k hk with e | e
      · exact (unhide HS1).2.2.1 k e
      · exact .inr (Nat.le_trans (unhide HS1).2.1.size e), blk_puts (unhide HS1).2.2.2.1.1 hG hX (unhide HS1).2.2.2.1.2, blk_puts (unhide HS1).2.2.2.2.1 hG hX (unhide HS1).2.2.2.2.2⟩
  have p0 : w2.cell? ⟨w.heap.size, 0, none⟩ = some (.int .i64 2) := (unhide HS2).2.2.2.1.1.cell 0 rfl
  have p1 : w2.cell? ⟨w.heap.size, 1, none⟩ = some (.string (BA t)) := (unhide HS2).2.2.2.1.1.cell 1 rfl
  have p2 : w2.cell? ⟨w.heap.size, 2, none⟩ = some (.bool true) := (unhide HS2).2.2.2.1.1.cell 2 rfl
  have p3 : w2.cell? ⟨w.heap.size, 3, none⟩ = some (.int .i64 0) := (unhide HS2).2.2.2.1.1.cell 3 rfl
  have p4 : w2.cell? ⟨w.heap.size, 4, none⟩ = some (.bool false) := (unhide HS2).2.2.2.1.1.cell 4 rfl
  have p5 : w2.cell? ⟨w.heap.size, 5, none⟩ = some (.slice none 0 0) := (unhide HS2).2.2.2.1.1.cell 5 rfl
  have n0 : w2.cell? ⟨w.heap.size + 1, 0, none⟩ = some (.func (Fn.func 24) #[] #[]) := (unhide HS2).2.2.2.2.1.cell 0 rfl
  have n1 : w2.cell? ⟨w.heap.size + 1, 1, none⟩ = some (.string ⟨#[34]⟩) := (unhide HS2).2.2.2.2.1.cell 1 rfl
  have n2 : w2.cell? ⟨w.heap.size + 1, 2, none⟩ = some (.func (Fn.func 25) #[] #[]) := (unhide HS2).2.2.2.2.1.cell 2 rfl
  clear hP hG hX
  go_wp2_with fail
  refine (sign_zero _ ((unhide HE).grown (unhide HS2).2.1 (fun k hk => by have := unhide HLO k hk; omega))).mono ?_
  rintro e ws ⟨rfl, bs⟩
  have HBS := hide bs
  have HSS : Hid (Pg ws b X2 (l ++ [36, 123] ++ t) ∧ Below w2.heap.size w2 ws) := hide ⟨(unhide HS2).1.below bs, bs⟩
  clear bs
  go_wp2_with fail
  refine (put_new [] ws _ b X2 (l ++ [36, 123] ++ t) rfl (unhide HSS).1 (by simp; omega)).mono ?_
  rintro e w3 ⟨rfl, a3'⟩
  have a3 := Puts.of_below (unhide HSS).2 a3'
  clear a3' p0 p1 p2 p3 p4 p5 n0 n1 n2
  obtain ⟨X3, hP, hG, hX⟩ := a3
  have HS3 : Hid (Pg w3 b X3 (l ++ [36, 123] ++ t ++ []) ∧ GrownS w w3 X ∧ (∀ k, X3 k → X k ∨ w.heap.size ≤ k) ∧ (Blk w3 w.heap.size 35 #[.int .i64 2, .string (BA t), .bool true, .int .i64 0, .bool false, .slice none 0 0] ∧ ¬ X3 w.heap.size) ∧ (Blk w3 (w.heap.size + 1) 43 #[.func (Fn.func 24) #[] #[], .string ⟨#[34]⟩, .func (Fn.func 25) #[] #[]] ∧ ¬ X3 (w.heap.size + 1))) := hide ⟨hP, (unhide HS2).2.1.trans2 hG (fun k hk e => by
      rcases (unhide HS2).2.2.1 k e with e | e
      · exact e
      · omega), fun k hk => by
      rcases hX k hk with e | e
      · exact (unhide HS2).2.2.1 k e
      · exact .inr (Nat.le_trans (unhide HS2).2.1.size e), blk_puts (unhide HS2).2.2.2.1.1 hG hX (unhide HS2).2.2.2.1.2, blk_puts (unhide HS2).2.2.2.2.1 hG hX (unhide HS2).2.2.2.2.2⟩
  have p0 : w3.cell? ⟨w.heap.size, 0, none⟩ = some (.int .i64 2) := (unhide HS3).2.2.2.1.1.cell 0 rfl
  have p1 : w3.cell? ⟨w.heap.size, 1, none⟩ = some (.string (BA t)) := (unhide HS3).2.2.2.1.1.cell 1 rfl
  have p2 : w3.cell? ⟨w.heap.size, 2, none⟩ = some (.bool true) := (unhide HS3).2.2.2.1.1.cell 2 rfl
  have p3 : w3.cell? ⟨w.heap.size, 3, none⟩ = some (.int .i64 0) := (unhide HS3).2.2.2.1.1.cell 3 rfl
  have p4 : w3.cell? ⟨w.heap.size, 4, none⟩ = some (.bool false) := (unhide HS3).2.2.2.1.1.cell 4 rfl
  have p5 : w3.cell? ⟨w.heap.size, 5, none⟩ = some (.slice none 0 0) := (unhide HS3).2.2.2.1.1.cell 5 rfl
  have n0 : w3.cell? ⟨w.heap.size + 1, 0, none⟩ = some (.func (Fn.func 24) #[] #[]) := (unhide HS3).2.2.2.2.1.cell 0 rfl
  have n1 : w3.cell? ⟨w.heap.size + 1, 1, none⟩ = some (.string ⟨#[34]⟩) := (unhide HS3).2.2.2.2.1.cell 1 rfl
  have n2 : w3.cell? ⟨w.heap.size + 1, 2, none⟩ = some (.func (Fn.func 25) #[] #[]) := (unhide HS3).2.2.2.2.1.cell 2 rfl
  clear hP hG hX
  go_wp2_with fail
  refine (put_new [125] _ _ b _ (l ++ [36, 123] ++ t ++ []) (by first | rfl | simp) (unhide HS3).1 (by simp; omega)).mono ?_
  rintro e w4 ⟨rfl, a4⟩
  clear p0 p1 p2 p3 p4 p5 n0 n1 n2
  obtain ⟨X4, hP, hG, hX⟩ := a4
  have HS4 : Hid (Pg w4 b X4 (l ++ [36, 123] ++ t ++ [] ++ [125]) ∧ GrownS w w4 X ∧ (∀ k, X4 k → X k ∨ w.heap.size ≤ k) ∧ (Blk w4 w.heap.size 35 #[.int .i64 2, .string (BA t), .bool true, .int .i64 0, .bool false, .slice none 0 0] ∧ ¬ X4 w.heap.size) ∧ (Blk w4 (w.heap.size + 1) 43 #[.func (Fn.func 24) #[] #[], .string ⟨#[34]⟩, .func (Fn.func 25) #[] #[]] ∧ ¬ X4 (w.heap.size + 1))) := hide ⟨hP, (unhide HS3).2.1.trans2 hG (fun k hk e => by
      rcases (unhide HS3).2.2.1 k e with e | e
      · exact e
      · omega), fun k hk => by
      rcases hX k hk with e | e
      · exact (unhide HS3).2.2.1 k e
      · exact .inr (Nat.le_trans (unhide HS3).2.1.size e), blk_puts (unhide HS3).2.2.2.1.1 hG hX (unhide HS3).2.2.2.1.2, blk_puts (unhide HS3).2.2.2.2.1 hG hX (unhide HS3).2.2.2.2.2⟩
  have p0 : w4.cell? ⟨w.heap.size, 0, none⟩ = some (.int .i64 2) := (unhide HS4).2.2.2.1.1.cell 0 rfl
  have p1 : w4.cell? ⟨w.heap.size, 1, none⟩ = some (.string (BA t)) := (unhide HS4).2.2.2.1.1.cell 1 rfl
  have p2 : w4.cell? ⟨w.heap.size, 2, none⟩ = some (.bool true) := (unhide HS4).2.2.2.1.1.cell 2 rfl
  have p3 : w4.cell? ⟨w.heap.size, 3, none⟩ = some (.int .i64 0) := (unhide HS4).2.2.2.1.1.cell 3 rfl
  have p4 : w4.cell? ⟨w.heap.size, 4, none⟩ = some (.bool false) := (unhide HS4).2.2.2.1.1.cell 4 rfl
  have p5 : w4.cell? ⟨w.heap.size, 5, none⟩ = some (.slice none 0 0) := (unhide HS4).2.2.2.1.1.cell 5 rfl
  have n0 : w4.cell? ⟨w.heap.size + 1, 0, none⟩ = some (.func (Fn.func 24) #[] #[]) := (unhide HS4).2.2.2.2.1.cell 0 rfl
  have n1 : w4.cell? ⟨w.heap.size + 1, 1, none⟩ = some (.string ⟨#[34]⟩) := (unhide HS4).2.2.2.2.1.cell 1 rfl
  have n2 : w4.cell? ⟨w.heap.size + 1, 2, none⟩ = some (.func (Fn.func 25) #[] #[]) := (unhide HS4).2.2.2.2.1.cell 2 rfl
  clear hP hG hX
  go_wp2
  refine bodyPost_end (res0 rfl _ _) rfl ?_
  exact ⟨rfl, ⟨_, (unhide HS4).1, (unhide HS4).2.1, (unhide HS4).2.2.1⟩⟩
set_option maxRecDepth 20000 in
set_option maxHeartbeats 4000000 in
theorem dollar_zero (t : List UInt8) (w : World) (b : Nat) (X : Nat → Prop) (l : List UInt8) (he : WEnv w) (hb3 : 3 ≤ b) (h : Pg w b X l) (hl : l.length + t.length ≤ 100000) :
    Calls Tryd.prog 38 #[.pointer (some ⟨b, 0, none⟩), .agg #[.int .i64 2, .string (BA t), .bool true, .int .i64 0, .bool false, .slice none 0 0], (.agg #[.func (Fn.func 24) #[] #[], .string ⟨#[34]⟩, .func (Fn.func 25) #[] #[]])] w fun e w' => e = .returned (.tuple #[]) ∧ Puts w b X (l ++ [36, 123] ++ t ++ [] ++ [125]) w' := by
  have hbw := h.lt
  have h2w := he.two
  have hXq0 : ¬ X w.heap.size := fun e => by have := h.hi _ e; omega
  have hXq1 : ¬ X (w.heap.size + 1) := fun e => by have := h.hi _ e; omega
  have hlo := h.lo
  have hbel : Below w.heap.size w ((w.alloc (.cells #[.int .i64 2, .string (BA t), .bool true, .int .i64 0, .bool false, .slice none 0 0] 35)).alloc (.cells #[.func (Fn.func 24) #[] #[], .string ⟨#[34]⟩, .func (Fn.func 25) #[] #[]] 43)) := ((Below.refl _ w).alloc (Nat.le_refl _) _).alloc (by simp) _
  have hB0 : Blk ((w.alloc (.cells #[.int .i64 2, .string (BA t), .bool true, .int .i64 0, .bool false, .slice none 0 0] 35)).alloc (.cells #[.func (Fn.func 24) #[] #[], .string ⟨#[34]⟩, .func (Fn.func 25) #[] #[]] 43)) w.heap.size 35 #[.int .i64 2, .string (BA t), .bool true, .int .i64 0, .bool false, .slice none 0 0] := (Blk.new w _ _).alloc _
  have hN0 : Blk ((w.alloc (.cells #[.int .i64 2, .string (BA t), .bool true, .int .i64 0, .bool false, .slice none 0 0] 35)).alloc (.cells #[.func (Fn.func 24) #[] #[], .string ⟨#[34]⟩, .func (Fn.func 25) #[] #[]] 43)) (w.heap.size + 1) 43 #[.func (Fn.func 24) #[] #[], .string ⟨#[34]⟩, .func (Fn.func 25) #[] #[]] := by
    have := Blk.new (w.alloc (.cells #[.int .i64 2, .string (BA t), .bool true, .int .i64 0, .bool false, .slice none 0 0] 35)) 43 #[.func (Fn.func 24) #[] #[], .string ⟨#[34]⟩, .func (Fn.func 25) #[] #[]]
    rwa [show (w.alloc (.cells #[.int .i64 2, .string (BA t), .bool true, .int .i64 0, .bool false, .slice none 0 0] 35)).heap.size = w.heap.size + 1 by simp] at this
  have HS0 : Hid (Pg ((w.alloc (.cells #[.int .i64 2, .string (BA t), .bool true, .int .i64 0, .bool false, .slice none 0 0] 35)).alloc (.cells #[.func (Fn.func 24) #[] #[], .string ⟨#[34]⟩, .func (Fn.func 25) #[] #[]] 43)) b X l ∧ GrownS w ((w.alloc (.cells #[.int .i64 2, .string (BA t), .bool true, .int .i64 0, .bool false, .slice none 0 0] 35)).alloc (.cells #[.func (Fn.func 24) #[] #[], .string ⟨#[34]⟩, .func (Fn.func 25) #[] #[]] 43)) X ∧ (∀ k, X k → X k ∨ w.heap.size ≤ k) ∧ (Blk ((w.alloc (.cells #[.int .i64 2, .string (BA t), .bool true, .int .i64 0, .bool false, .slice none 0 0] 35)).alloc (.cells #[.func (Fn.func 24) #[] #[], .string ⟨#[34]⟩, .func (Fn.func 25) #[] #[]] 43)) w.heap.size 35 #[.int .i64 2, .string (BA t), .bool true, .int .i64 0, .bool false, .slice none 0 0] ∧ ¬ X w.heap.size) ∧ (Blk ((w.alloc (.cells #[.int .i64 2, .string (BA t), .bool true, .int .i64 0, .bool false, .slice none 0 0] 35)).alloc (.cells #[.func (Fn.func 24) #[] #[], .string ⟨#[34]⟩, .func (Fn.func 25) #[] #[]] 43)) (w.heap.size + 1) 43 #[.func (Fn.func 24) #[] #[], .string ⟨#[34]⟩, .func (Fn.func 25) #[] #[]] ∧ ¬ X (w.heap.size + 1))) := hide ⟨h.below hbel, grownS_of_below hbel, fun _ h => .inl h, ⟨hB0, hXq0⟩, hN0, hXq1⟩
  have HE := hide he
  have HLO := hide hlo
  clear he h hXq0 hXq1 hbel hB0 hN0 hlo
  go_enter Tryd.func38, Tryd.ntmps38
  go_wp2_with fail
  refine (pbrace_zero t _ b X l ((unhide HE).grown (unhide HS0).2.1 (fun k hk => by have := unhide HLO k hk; omega)) hb3 (unhide HS0).1 hl).mono ?_
  rintro e w1 ⟨rfl, a1⟩
  have HA := hide (Puts.trans (unhide HS0).2.1 (unhide HS0).2.2.1 a1)
  clear a1
  go_wp2
  refine bodyPost_end (res0 rfl _ _) rfl ?_
  exact ⟨rfl, unhide HA⟩
set_option maxRecDepth 20000 in
set_option maxHeartbeats 4000000 in
theorem ppart_zero (t : List UInt8) (w : World) (b : Nat) (X : Nat → Prop) (l : List UInt8) (he : WEnv w) (hb3 : 3 ≤ b) (h : Pg w b X l) (hl : l.length + t.length ≤ 99000) :
    Calls Tryd.prog 29 #[.pointer (some ⟨b, 0, none⟩), .agg #[.int .i64 2, .string (BA t), .bool true, .int .i64 0, .bool false, .slice none 0 0], (.agg #[.func (Fn.func 24) #[] #[], .string ⟨#[34]⟩, .func (Fn.func 25) #[] #[]])] w fun e w' => e = .returned (.tuple #[]) ∧ Puts w b X (l ++ [34] ++ [36, 123] ++ t ++ [] ++ [125] ++ [34]) w' := by
  have hbw := h.lt
  have h2w := he.two
  have hXq0 : ¬ X w.heap.size := fun e => by have := h.hi _ e; omega
  have hXq1 : ¬ X (w.heap.size + 1) := fun e => by have := h.hi _ e; omega
  have hlo := h.lo
  have hbel : Below w.heap.size w ((w.alloc (.cells #[.int .i64 2, .string (BA t), .bool true, .int .i64 0, .bool false, .slice none 0 0] 35)).alloc (.cells #[.func (Fn.func 24) #[] #[], .string ⟨#[34]⟩, .func (Fn.func 25) #[] #[]] 43)) := ((Below.refl _ w).alloc (Nat.le_refl _) _).alloc (by simp) _
  have hB0 : Blk ((w.alloc (.cells #[.int .i64 2, .string (BA t), .bool true, .int .i64 0, .bool false, .slice none 0 0] 35)).alloc (.cells #[.func (Fn.func 24) #[] #[], .string ⟨#[34]⟩, .func (Fn.func 25) #[] #[]] 43)) w.heap.size 35 #[.int .i64 2, .string (BA t), .bool true, .int .i64 0, .bool false, .slice none 0 0] := (Blk.new w _ _).alloc _
  have hN0 : Blk ((w.alloc (.cells #[.int .i64 2, .string (BA t), .bool true, .int .i64 0, .bool false, .slice none 0 0] 35)).alloc (.cells #[.func (Fn.func 24) #[] #[], .string ⟨#[34]⟩, .func (Fn.func 25) #[] #[]] 43)) (w.heap.size + 1) 43 #[.func (Fn.func 24) #[] #[], .string ⟨#[34]⟩, .func (Fn.func 25) #[] #[]] := by
    have := Blk.new (w.alloc (.cells #[.int .i64 2, .string (BA t), .bool true, .int .i64 0, .bool false, .slice none 0 0] 35)) 43 #[.func (Fn.func 24) #[] #[], .string ⟨#[34]⟩, .func (Fn.func 25) #[] #[]]
    rwa [show (w.alloc (.cells #[.int .i64 2, .string (BA t), .bool true, .int .i64 0, .bool false, .slice none 0 0] 35)).heap.size = w.heap.size + 1 by simp] at this
  have HS0 : Hid (Pg ((w.alloc (.cells #[.int .i64 2, .string (BA t), .bool true, .int .i64 0, .bool false, .slice none 0 0] 35)).alloc (.cells #[.func (Fn.func 24) #[] #[], .string ⟨#[34]⟩, .func (Fn.func 25) #[] #[]] 43)) b X l ∧ GrownS w ((w.alloc (.cells #[.int .i64 2, .string (BA t), .bool true, .int .i64 0, .bool false, .slice none 0 0] 35)).alloc (.cells #[.func (Fn.func 24) #[] #[], .string ⟨#[34]⟩, .func (Fn.func 25) #[] #[]] 43)) X ∧ (∀ k, X k → X k ∨ w.heap.size ≤ k) ∧ (Blk ((w.alloc (.cells #[.int .i64 2, .string (BA t), .bool true, .int .i64 0, .bool false, .slice none 0 0] 35)).alloc (.cells #[.func (Fn.func 24) #[] #[], .string ⟨#[34]⟩, .func (Fn.func 25) #[] #[]] 43)) w.heap.size 35 #[.int .i64 2, .string (BA t), .bool true, .int .i64 0, .bool false, .slice none 0 0] ∧ ¬ X w.heap.size) ∧ (Blk ((w.alloc (.cells #[.int .i64 2, .string (BA t), .bool true, .int .i64 0, .bool false, .slice none 0 0] 35)).alloc (.cells #[.func (Fn.func 24) #[] #[], .string ⟨#[34]⟩, .func (Fn.func 25) #[] #[]] 43)) (w.heap.size + 1) 43 #[.func (Fn.func 24) #[] #[], .string ⟨#[34]⟩, .func (Fn.func 25) #[] #[]] ∧ ¬ X (w.heap.size + 1))) := hide ⟨h.below hbel, grownS_of_below hbel, fun _ h => .inl h, ⟨hB0, hXq0⟩, hN0, hXq1⟩
  have HE := hide he
  have HLO := hide hlo
  clear he h hXq0 hXq1 hbel hB0 hN0 hlo
  go_enter Tryd.func29, Tryd.ntmps29
  go_wp2_with fail
  refine (put_new [34] _ _ b _ (l) (by first | rfl | simp) (unhide HS0).1 (by simp; omega)).mono ?_
  rintro e w1 ⟨rfl, a1⟩
  obtain ⟨X1, hP, hG, hX⟩ := a1
  have HS1 : Hid (Pg w1 b X1 (l ++ [34]) ∧ GrownS w w1 X ∧ (∀ k, X1 k → X k ∨ w.heap.size ≤ k) ∧ (Blk w1 w.heap.size 35 #[.int .i64 2, .string (BA t), .bool true, .int .i64 0, .bool false, .slice none 0 0] ∧ ¬ X1 w.heap.size) ∧ (Blk w1 (w.heap.size + 1) 43 #[.func (Fn.func 24) #[] #[], .string ⟨#[34]⟩, .func (Fn.func 25) #[] #[]] ∧ ¬ X1 (w.heap.size + 1))) := hide ⟨hP, (unhide HS0).2.1.trans2 hG (fun k hk e => by
      rcases (unhide HS0).2.2.1 k e with e | e
      · exact e
      · omega), fun k hk => by
      rcases hX k hk with e | e
      · exact (unhide HS0).2.2.1 k e
      · exact .inr (Nat.le_trans (unhide HS0).2.1.size e), blk_puts (unhide HS0).2.2.2.1.1 hG hX (unhide HS0).2.2.2.1.2, blk_puts (unhide HS0).2.2.2.2.1 hG hX (unhide HS0).2.2.2.2.2⟩
  have p0 : w1.cell? ⟨w.heap.size, 0, none⟩ = some (.int .i64 2) := (unhide HS1).2.2.2.1.1.cell 0 rfl
  have p1 : w1.cell? ⟨w.heap.size, 1, none⟩ = some (.string (BA t)) := (unhide HS1).2.2.2.1.1.cell 1 rfl
  have p2 : w1.cell? ⟨w.heap.size, 2, none⟩ = some (.bool true) := (unhide HS1).2.2.2.1.1.cell 2 rfl
  have p3 : w1.cell? ⟨w.heap.size, 3, none⟩ = some (.int .i64 0) := (unhide HS1).2.2.2.1.1.cell 3 rfl
  have p4 : w1.cell? ⟨w.heap.size, 4, none⟩ = some (.bool false) := (unhide HS1).2.2.2.1.1.cell 4 rfl
  have p5 : w1.cell? ⟨w.heap.size, 5, none⟩ = some (.slice none 0 0) := (unhide HS1).2.2.2.1.1.cell 5 rfl
  have n0 : w1.cell? ⟨w.heap.size + 1, 0, none⟩ = some (.func (Fn.func 24) #[] #[]) := (unhide HS1).2.2.2.2.1.cell 0 rfl
  have n1 : w1.cell? ⟨w.heap.size + 1, 1, none⟩ = some (.string ⟨#[34]⟩) := (unhide HS1).2.2.2.2.1.cell 1 rfl
  have n2 : w1.cell? ⟨w.heap.size + 1, 2, none⟩ = some (.func (Fn.func 25) #[] #[]) := (unhide HS1).2.2.2.2.1.cell 2 rfl
  clear hP hG hX
  go_wp2_with fail
  refine (dollar_zero t _ b X1 (l ++ [34]) ((unhide HE).grown (unhide HS1).2.1 (fun k hk => by have := unhide HLO k hk; omega)) hb3 (unhide HS1).1 (by simp; omega)).mono ?_
  rintro e w2 ⟨rfl, a2⟩
  clear p0 p1 p2 p3 p4 p5 n0 n1 n2
  obtain ⟨X2, hP, hG, hX⟩ := a2
  have HS2 : Hid (Pg w2 b X2 (l ++ [34] ++ [36, 123] ++ t ++ [] ++ [125]) ∧ GrownS w w2 X ∧ (∀ k, X2 k → X k ∨ w.heap.size ≤ k) ∧ (Blk w2 w.heap.size 35 #[.int .i64 2, .string (BA t), .bool true, .int .i64 0, .bool false, .slice none 0 0] ∧ ¬ X2 w.heap.size) ∧ (Blk w2 (w.heap.size + 1) 43 #[.func (Fn.func 24) #[] #[], .string ⟨#[34]⟩, .func (Fn.func 25) #[] #[]] ∧ ¬ X2 (w.heap.size + 1))) := hide ⟨hP, (unhide HS1).2.1.trans2 hG (fun k hk e => by
      rcases (unhide HS1).2.2.1 k e with e | e
      · exact e
      · omega), fun k hk => by
      rcases hX k hk with e | e
      · exact (unhide HS1).2.2.1 k e
      · exact .inr (Nat.le_trans (unhide HS1).2.1.size e), blk_puts (unhide HS1).2.2.2.1.1 hG hX (unhide HS1).2.2.2.1.2, blk_puts (unhide HS1).2.2.2.2.1 hG hX (unhide HS1).2.2.2.2.2⟩
  have p0 : w2.cell? ⟨w.heap.size, 0, none⟩ = some (.int .i64 2) := (unhide HS2).2.2.2.1.1.cell 0 rfl
  have p1 : w2.cell? ⟨w.heap.size, 1, none⟩ = some (.string (BA t)) := (unhide HS2).2.2.2.1.1.cell 1 rfl
  have p2 : w2.cell? ⟨w.heap.size, 2, none⟩ = some (.bool true) := (unhide HS2).2.2.2.1.1.cell 2 rfl
  have p3 : w2.cell? ⟨w.heap.size, 3, none⟩ = some (.int .i64 0) := (unhide HS2).2.2.2.1.1.cell 3 rfl
  have p4 : w2.cell? ⟨w.heap.size, 4, none⟩ = some (.bool false) := (unhide HS2).2.2.2.1.1.cell 4 rfl
  have p5 : w2.cell? ⟨w.heap.size, 5, none⟩ = some (.slice none 0 0) := (unhide HS2).2.2.2.1.1.cell 5 rfl
  have n0 : w2.cell? ⟨w.heap.size + 1, 0, none⟩ = some (.func (Fn.func 24) #[] #[]) := (unhide HS2).2.2.2.2.1.cell 0 rfl
  have n1 : w2.cell? ⟨w.heap.size + 1, 1, none⟩ = some (.string ⟨#[34]⟩) := (unhide HS2).2.2.2.2.1.cell 1 rfl
  have n2 : w2.cell? ⟨w.heap.size + 1, 2, none⟩ = some (.func (Fn.func 25) #[] #[]) := (unhide HS2).2.2.2.2.1.cell 2 rfl
  clear hP hG hX
  go_wp2_with fail
  refine (put_new [34] _ _ b _ (l ++ [34] ++ [36, 123] ++ t ++ [] ++ [125]) (by first | rfl | simp) (unhide HS2).1 (by simp; omega)).mono ?_
  rintro e w3 ⟨rfl, a3⟩
  clear p0 p1 p2 p3 p4 p5 n0 n1 n2
  obtain ⟨X3, hP, hG, hX⟩ := a3
  have HS3 : Hid (Pg w3 b X3 (l ++ [34] ++ [36, 123] ++ t ++ [] ++ [125] ++ [34]) ∧ GrownS w w3 X ∧ (∀ k, X3 k → X k ∨ w.heap.size ≤ k) ∧ (Blk w3 w.heap.size 35 #[.int .i64 2, .string (BA t), .bool true, .int .i64 0, .bool false, .slice none 0 0] ∧ ¬ X3 w.heap.size) ∧ (Blk w3 (w.heap.size + 1) 43 #[.func (Fn.func 24) #[] #[], .string ⟨#[34]⟩, .func (Fn.func 25) #[] #[]] ∧ ¬ X3 (w.heap.size + 1))) := hide ⟨hP, (unhide HS2).2.1.trans2 hG (fun k hk e => by
      rcases (unhide HS2).2.2.1 k e with e | e
      · exact e
      · omega), fun k hk => by
      rcases hX k hk with e | e
      · exact (unhide HS2).2.2.1 k e
      · exact .inr (Nat.le_trans (unhide HS2).2.1.size e), blk_puts (unhide HS2).2.2.2.1.1 hG hX (unhide HS2).2.2.2.1.2, blk_puts (unhide HS2).2.2.2.2.1 hG hX (unhide HS2).2.2.2.2.2⟩
  have p0 : w3.cell? ⟨w.heap.size, 0, none⟩ = some (.int .i64 2) := (unhide HS3).2.2.2.1.1.cell 0 rfl
  have p1 : w3.cell? ⟨w.heap.size, 1, none⟩ = some (.string (BA t)) := (unhide HS3).2.2.2.1.1.cell 1 rfl
  have p2 : w3.cell? ⟨w.heap.size, 2, none⟩ = some (.bool true) := (unhide HS3).2.2.2.1.1.cell 2 rfl
  have p3 : w3.cell? ⟨w.heap.size, 3, none⟩ = some (.int .i64 0) := (unhide HS3).2.2.2.1.1.cell 3 rfl
  have p4 : w3.cell? ⟨w.heap.size, 4, none⟩ = some (.bool false) := (unhide HS3).2.2.2.1.1.cell 4 rfl
  have p5 : w3.cell? ⟨w.heap.size, 5, none⟩ = some (.slice none 0 0) := (unhide HS3).2.2.2.1.1.cell 5 rfl
  have n0 : w3.cell? ⟨w.heap.size + 1, 0, none⟩ = some (.func (Fn.func 24) #[] #[]) := (unhide HS3).2.2.2.2.1.cell 0 rfl
  have n1 : w3.cell? ⟨w.heap.size + 1, 1, none⟩ = some (.string ⟨#[34]⟩) := (unhide HS3).2.2.2.2.1.cell 1 rfl
  have n2 : w3.cell? ⟨w.heap.size + 1, 2, none⟩ = some (.func (Fn.func 25) #[] #[]) := (unhide HS3).2.2.2.2.1.cell 2 rfl
  clear hP hG hX
  go_wp2
  refine bodyPost_end (res0 rfl _ _) rfl ?_
  exact ⟨rfl, ⟨_, (unhide HS3).1, (unhide HS3).2.1, (unhide HS3).2.2.1⟩⟩

end Go.Proofs.YtodcfgbcigjjfaaDoor

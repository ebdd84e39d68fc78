/-
  A plain Var in quotes is written: the chapter's example of Print.
  A plain Var in quotes is written: brace, dollar, part.
  The chapter's example of Print.
-/
import Derived.Test.YtnamfjbfcbamjaaGreatDoorP17
import Derived.Laws.EntriesVeiled
namespace Go.Proofs.YtnamfjbfcbamjaaGreatDoor
open Go.RowKit
set_option maxRecDepth 20000 in
set_option maxHeartbeats 8000000 in
theorem sign_zero (w : World) (he : WEnv w) : Calls Tryz.prog 96 #[.int .i64 0] w fun e w' => e = .returned (.string ⟨#[]⟩) ∧ Below w.heap.size w w' := by
  have a0 := he.sg 0 (by decide)
  have a1 := he.sg 1 (by decide)
  have a2 := he.sg 2 (by decide)
  have a3 := he.sg 3 (by decide)
  have a4 := he.sg 4 (by decide)
  have a5 := he.sg 5 (by decide)
  have a6 := he.sg 6 (by decide)
  have a7 := he.sg 7 (by decide)
  have a8 := he.sg 8 (by decide)
  have a9 := he.sg 9 (by decide)
  have a10 := he.sg 10 (by decide)
  have a11 := he.sg 11 (by decide)
  have a12 := he.sg 12 (by decide)
  have a13 := he.sg 13 (by decide)
  have a14 := he.sg 14 (by decide)
  have a15 := he.sg 15 (by decide)
  simp only [List.getElem?_cons_zero, List.getElem?_cons_succ] at a0 a1 a2 a3 a4 a5 a6 a7 a8 a9 a10 a11 a12 a13 a14 a15
  clear he
  go_enter Tryz.func96, Tryz.ntmps96
  go_wp2_with fail
  go_loopw [6] (fun x wr => ∃ k : Int, x = .int .i64 k ∧ 0 ≤ k ∧ k ≤ 8 ∧ Hid (Below w.heap.size w wr)) (fun x _ => 8 - (intOf x).toNat)
  case atStart => exact ⟨0, rfl, by decide, by decide, hide (Below.refl _ _)⟩
  case round =>
    clear a0 a1 a2 a3 a4 a5 a6 a7 a8 a9 a10 a11 a12 a13 a14 a15
    obtain ⟨k, rfl, hk0, hk1, HB⟩ := hrel
    by_cases hk8 : k = 8
    · subst hk8
      go_wp2
      go_ret
      exact ⟨rfl, unhide HB⟩
    have hcs : k = 0 ∨ k = 1 ∨ k = 2 ∨ k = 3 ∨ k = 4 ∨ k = 5 ∨ k = 6 ∨ k = 7 := by omega
    clear hk0 hk1 hk8
    rcases hcs with rfl | rfl | rfl | rfl | rfl | rfl | rfl | rfl
    all_goals
      have hidx0 := sidx0 wr
      have hidx1 := sidx1 wr
      have hidx2 := sidx2 wr
      have hidx3 := sidx3 wr
      have hidx4 := sidx4 wr
      have hidx5 := sidx5 wr
      have hidx6 := sidx6 wr
      have hidx7 := sidx7 wr
      go_wp2
      go_roundw
      case rel => exact ⟨_, rfl, by decide, by decide, hide ((unhide HB).alloc (unhide HB).size _)⟩
      case measure => simp [intOf]
theorem Pg.keep {w w1 : World} {b : Nat} {X : Nat → Prop} {l : List UInt8} (h : Puts w b X l w1) : ∃ X1, Pg w1 b X1 l ∧ GrownS w w1 X ∧ ∀ k, X1 k → X k ∨ w.heap.size ≤ k := h
theorem blk_puts {w w1 : World} {q : Nat} {X X1 : Nat → Prop} {t : TypeId} {cs : Array Value} (hb : Blk w q t cs) (hg : GrownS w w1 X) (hx : ∀ k, X1 k → X k ∨ w.heap.size ≤ k) (hq : ¬ X q) : Blk w1 q t cs ∧ ¬ X1 q :=
  ⟨hb.grownS hg hq, fun e => by
    rcases hx q e with e | e
    · exact hq e
    · have := hb.lt; omega⟩
theorem put_new (t : List UInt8) (w : World) (n b : Nat) (X : Nat → Prop) (l : List UInt8) (hn : w.heap.size = n) (h : Pg w b X l) (hl : l.length + t.length ≤ 1000000) :
    Calls Tryz.prog 66 #[.pointer (some ⟨b, 0, none⟩), .slice (some ⟨n, 0, none⟩) 1 1] (w.alloc (.cells #[.string (BA t)] 9)) fun e w' => e = .returned (.tuple #[]) ∧ Puts w b X (l ++ t) w' := by
  subst hn
  exact (put_any t _ b w.heap.size X l (h.below ((Below.refl _ _).alloc (Nat.le_refl _) _)) ((Blk.new w _ _).cell 0 rfl) hl).mono (fun _ _ ⟨h1, h2⟩ => ⟨h1, h2.of_below ((Below.refl _ _).alloc (Nat.le_refl _) _)⟩)
end Go.Proofs.YtnamfjbfcbamjaaGreatDoor
namespace Go.Proofs.YtnamfjbfcbamjaaGreatDoor
open Go.RowKit
set_option maxRecDepth 20000 in
set_option maxHeartbeats 4000000 in
theorem pbrace_zero (t : List UInt8) (w : World) (b : Nat) (X : Nat → Prop) (l : List UInt8) (he : WEnv w) (hb3 : 3 ≤ b) (h : Pg w b X l) (hl : l.length + t.length ≤ 100000) :
    Calls Tryz.prog 81 #[.pointer (some ⟨b, 0, none⟩), .agg #[.int .i64 2, .string (BA t), .bool true, .int .i64 0, .bool false, .slice none 0 0], (.agg #[.func (Fn.func 34) #[] #[], .string ⟨#[34]⟩, .func (Fn.func 35) #[] #[]])] w fun e w' => e = .returned (.tuple #[]) ∧ Puts w b X (l ++ [36, 123] ++ t ++ [] ++ [125]) w' := by
  have hbw := h.lt
  have h2w := he.two
  have hXq0 : ¬ X w.heap.size := fun e => by have := h.hi _ e; omega
  have hXq1 : ¬ X (w.heap.size + 1) := fun e => by have := h.hi _ e; omega
  have hlo := h.lo
  have hbel : Below w.heap.size w ((w.alloc (.cells #[.int .i64 2, .string (BA t), .bool true, .int .i64 0, .bool false, .slice none 0 0] 37)).alloc (.cells #[.func (Fn.func 34) #[] #[], .string ⟨#[34]⟩, .func (Fn.func 35) #[] #[]] 45)) := ((Below.refl _ w).alloc (Nat.le_refl _) _).alloc (by simp) _
  have hB0 : Blk ((w.alloc (.cells #[.int .i64 2, .string (BA t), .bool true, .int .i64 0, .bool false, .slice none 0 0] 37)).alloc (.cells #[.func (Fn.func 34) #[] #[], .string ⟨#[34]⟩, .func (Fn.func 35) #[] #[]] 45)) w.heap.size 37 #[.int .i64 2, .string (BA t), .bool true, .int .i64 0, .bool false, .slice none 0 0] := (Blk.new w _ _).alloc _
  have hN0 : Blk ((w.alloc (.cells #[.int .i64 2, .string (BA t), .bool true, .int .i64 0, .bool false, .slice none 0 0] 37)).alloc (.cells #[.func (Fn.func 34) #[] #[], .string ⟨#[34]⟩, .func (Fn.func 35) #[] #[]] 45)) (w.heap.size + 1) 45 #[.func (Fn.func 34) #[] #[], .string ⟨#[34]⟩, .func (Fn.func 35) #[] #[]] := by
    have := Blk.new (w.alloc (.cells #[.int .i64 2, .string (BA t), .bool true, .int .i64 0, .bool false, .slice none 0 0] 37)) 45 #[.func (Fn.func 34) #[] #[], .string ⟨#[34]⟩, .func (Fn.func 35) #[] #[]]
    rwa [show (w.alloc (.cells #[.int .i64 2, .string (BA t), .bool true, .int .i64 0, .bool false, .slice none 0 0] 37)).heap.size = w.heap.size + 1 by simp] at this
  have HS0 : Hid (Pg ((w.alloc (.cells #[.int .i64 2, .string (BA t), .bool true, .int .i64 0, .bool false, .slice none 0 0] 37)).alloc (.cells #[.func (Fn.func 34) #[] #[], .string ⟨#[34]⟩, .func (Fn.func 35) #[] #[]] 45)) b X l ∧ GrownS w ((w.alloc (.cells #[.int .i64 2, .string (BA t), .bool true, .int .i64 0, .bool false, .slice none 0 0] 37)).alloc (.cells #[.func (Fn.func 34) #[] #[], .string ⟨#[34]⟩, .func (Fn.func 35) #[] #[]] 45)) X ∧ (∀ k, X k → X k ∨ w.heap.size ≤ k) ∧ (Blk ((w.alloc (.cells #[.int .i64 2, .string (BA t), .bool true, .int .i64 0, .bool false, .slice none 0 0] 37)).alloc (.cells #[.func (Fn.func 34) #[] #[], .string ⟨#[34]⟩, .func (Fn.func 35) #[] #[]] 45)) w.heap.size 37 #[.int .i64 2, .string (BA t), .bool true, .int .i64 0, .bool false, .slice none 0 0] ∧ ¬ X w.heap.size) ∧ (Blk ((w.alloc (.cells #[.int .i64 2, .string (BA t), .bool true, .int .i64 0, .bool false, .slice none 0 0] 37)).alloc (.cells #[.func (Fn.func 34) #[] #[], .string ⟨#[34]⟩, .func (Fn.func 35) #[] #[]] 45)) (w.heap.size + 1) 45 #[.func (Fn.func 34) #[] #[], .string ⟨#[34]⟩, .func (Fn.func 35) #[] #[]] ∧ ¬ X (w.heap.size + 1))) := hide ⟨h.below hbel, grownS_of_below hbel, fun _ h => .inl h, ⟨hB0, hXq0⟩, hN0, hXq1⟩
  have HE := hide he
  have HLO := hide hlo
  clear he h hXq0 hXq1 hbel hB0 hN0 hlo
  go_enter Tryz.func81, Tryz.ntmps81
  go_wp2_with fail
  refine (put_new [36, 123] _ _ b _ (l) (by first | rfl | simp) (unhide HS0).1 (by simp; omega)).mono ?_
  rintro e w1 ⟨rfl, a1⟩
  obtain ⟨X1, hP, hG, hX⟩ := a1
  have HS1 : Hid (Pg w1 b X1 (l ++ [36, 123]) ∧ GrownS w w1 X ∧ (∀ k, X1 k → X k ∨ w.heap.size ≤ k) ∧ (Blk w1 w.heap.size 37 #[.int .i64 2, .string (BA t), .bool true, .int .i64 0, .bool false, .slice none 0 0] ∧ ¬ X1 w.heap.size) ∧ (Blk w1 (w.heap.size + 1) 45 #[.func (Fn.func 34) #[] #[], .string ⟨#[34]⟩, .func (Fn.func 35) #[] #[]] ∧ ¬ X1 (w.heap.size + 1))) := hide ⟨hP, (unhide HS0).2.1.trans2 hG (fun k hk e => by
      rcases (unhide HS0).2.2.1 k e with e | e
      · exact e
      · omega), fun k hk => by
      rcases hX k hk with e | e
      · exact (unhide HS0).2.2.1 k e
      · exact .inr (Nat.le_trans (unhide HS0).2.1.size e), blk_puts (unhide HS0).2.2.2.1.1 hG hX (unhide HS0).2.2.2.1.2, blk_puts (unhide HS0).2.2.2.2.1 hG hX (unhide HS0).2.2.2.2.2⟩
  have p0 : w1.cell? ⟨w.heap.size, 0, none⟩ = some (.int .i64 2) := (unhide HS1).2.2.2.1.1.cell 0 rfl
  have p1 : w1.cell? ⟨w.heap.size, 1, none⟩ = some (.string (BA t)) := (unhide HS1).2.2.2.1.1.cell 1 rfl
  have p2 : w1.cell? ⟨w.heap.size, 2, none⟩ = some (.bool true) := (unhide HS1).2.2.2.1.1.cell 2 rfl
  have p3 : w1.cell? ⟨w.heap.size, 3, none⟩ = some (.int .i64 0) := (unhide HS1).2.2.2.1.1.cell 3 rfl
  have p4 : w1.cell? ⟨w.heap.size, 4, none⟩ = some (.bool false) := (unhide HS1).2.2.2.1.1.cell 4 rfl
  have p5 : w1.cell? ⟨w.heap.size, 5, none⟩ = some (.slice none 0 0) := (unhide HS1).2.2.2.1.1.cell 5 rfl
  have n0 : w1.cell? ⟨w.heap.size + 1, 0, none⟩ = some (.func (Fn.func 34) #[] #[]) := (unhide HS1).2.2.2.2.1.cell 0 rfl
  have n1 : w1.cell? ⟨w.heap.size + 1, 1, none⟩ = some (.string ⟨#[34]⟩) := (unhide HS1).2.2.2.2.1.cell 1 rfl
  have n2 : w1.cell? ⟨w.heap.size + 1, 2, none⟩ = some (.func (Fn.func 35) #[] #[]) := (unhide HS1).2.2.2.2.1.cell 2 rfl
  clear hP hG hX
  go_wp2_with fail
  refine (put_new t _ _ b _ (l ++ [36, 123]) (by first | rfl | simp) (unhide HS1).1 (by simp; omega)).mono ?_
  rintro e w2 ⟨rfl, a2⟩
  clear p0 p1 p2 p3 p4 p5 n0 n1 n2
  obtain ⟨X2, hP, hG, hX⟩ := a2
  have HS2 : Hid (Pg w2 b X2 (l ++ [36, 123] ++ t) ∧ GrownS w w2 X ∧ (∀ k, X2 k → X k ∨ w.heap.size ≤ k) ∧ (Blk w2 w.heap.size 37 #[.int .i64 2, .string (BA t), .bool true, .int .i64 0, .bool false, .slice none 0 0] ∧ ¬ X2 w.heap.size) ∧ (Blk w2 (w.heap.size + 1) 45 #[.func (Fn.func 34) #[] #[], .string ⟨#[34]⟩, .func (Fn.func 35) #[] #[]] ∧ ¬ X2 (w.heap.size + 1))) := hide ⟨hP, (unhide HS1).2.1.trans2 hG (fun k hk e => by
      rcases (unhide HS1).2.2.1 k e with e | e
      · exact e
      · omega), fun k hk => by
      rcases hX k hk with e | e
      · exact (unhide HS1).2.2.1 k e
      · exact .inr (Nat.le_trans (unhide HS1).2.1.size e), blk_puts (unhide HS1).2.2.2.1.1 hG hX (unhide HS1).2.2.2.1.2, blk_puts (unhide HS1).2.2.2.2.1 hG hX (unhide HS1).2.2.2.2.2⟩
  have p0 : w2.cell? ⟨w.heap.size, 0, none⟩ = some (.int .i64 2) := (unhide HS2).2.2.2.1.1.cell 0 rfl
  have p1 : w2.cell? ⟨w.heap.size, 1, none⟩ = some (.string (BA t)) := (unhide HS2).2.2.2.1.1.cell 1 rfl
  have p2 : w2.cell? ⟨w.heap.size, 2, none⟩ = some (.bool true) := (unhide HS2).2.2.2.1.1.cell 2 rfl
  have p3 : w2.cell? ⟨w.heap.size, 3, none⟩ = some (.int .i64 0) := (unhide HS2).2.2.2.1.1.cell 3 rfl
  have p4 : w2.cell? ⟨w.heap.size, 4, none⟩ = some (.bool false) := (unhide HS2).2.2.2.1.1.cell 4 rfl
  have p5 : w2.cell? ⟨w.heap.size, 5, none⟩ = some (.slice none 0 0) := (unhide HS2).2.2.2.1.1.cell 5 rfl
  have n0 : w2.cell? ⟨w.heap.size + 1, 0, none⟩ = some (.func (Fn.func 34) #[] #[]) := (unhide HS2).2.2.2.2.1.cell 0 rfl
  have n1 : w2.cell? ⟨w.heap.size + 1, 1, none⟩ = some (.string ⟨#[34]⟩) := (unhide HS2).2.2.2.2.1.cell 1 rfl
  have n2 : w2.cell? ⟨w.heap.size + 1, 2, none⟩ = some (.func (Fn.func 35) #[] #[]) := (unhide HS2).2.2.2.2.1.cell 2 rfl
  clear hP hG hX
  go_wp2_with fail
  refine (sign_zero _ ((unhide HE).grown (unhide HS2).2.1 (fun k hk => by have := unhide HLO k hk; omega))).mono ?_
  rintro e ws ⟨rfl, bs⟩
  have HBS := hide bs
  have HSS : Hid (Pg ws b X2 (l ++ [36, 123] ++ t) ∧ Below w2.heap.size w2 ws) := hide ⟨(unhide HS2).1.below bs, bs⟩
  clear bs
  go_wp2_with fail
  refine (put_new [] ws _ b X2 (l ++ [36, 123] ++ t) rfl (unhide HSS).1 (by simp; omega)).mono ?_
  rintro e w3 ⟨rfl, a3'⟩
  have a3 := Puts.of_below (unhide HSS).2 a3'
  clear a3' p0 p1 p2 p3 p4 p5 n0 n1 n2
  obtain ⟨X3, hP, hG, hX⟩ := a3
  have HS3 : Hid (Pg w3 b X3 (l ++ [36, 123] ++ t ++ []) ∧ GrownS w w3 X ∧ (∀ k, X3 k → X k ∨ w.heap.size ≤ k) ∧ (Blk w3 w.heap.size 37 #[.int .i64 2, .string (BA t), .bool true, .int .i64 0, .bool false, .slice none 0 0] ∧ ¬ X3 w.heap.size) ∧ (Blk w3 (w.heap.size + 1) 45 #[.func (Fn.func 34) #[] #[], .string ⟨#[34]⟩, .func (Fn.func 35) #[] #[]] ∧ ¬ X3 (w.heap.size + 1))) := hide ⟨hP, (unhide HS2).2.1.trans2 hG (fun k hk e => by
      rcases (unhide HS2).2.2.1 k e with e | e
      · exact e
      · omega), fun k hk => by
      rcases hX k hk with e | e
      · exact (unhide HS2).2.2.1 k e
      · exact .inr (Nat.le_trans (unhide HS2).2.1.size e), blk_puts (unhide HS2).2.2.2.1.1 hG hX (unhide HS2).2.2.2.1.2, blk_puts (unhide HS2).2.2.2.2.1 hG hX (unhide HS2).2.2.2.2.2⟩
  have p0 : w3.cell? ⟨w.heap.size, 0, none⟩ = some (.int .i64 2) := (unhide HS3).2.2.2.1.1.cell 0 rfl
  have p1 : w3.cell? ⟨w.heap.size, 1, none⟩ = some (.string (BA t)) := (unhide HS3).2.2.2.1.1.cell 1 rfl
  have p2 : w3.cell? ⟨w.heap.size, 2, none⟩ = some (.bool true) := (unhide HS3).2.2.2.1.1.cell 2 rfl
  have p3 : w3.cell? ⟨w.heap.size, 3, none⟩ = some (.int .i64 0) := (unhide HS3).2.2.2.1.1.cell 3 rfl
  have p4 : w3.cell? ⟨w.heap.size, 4, none⟩ = some (.bool false) := (unhide HS3).2.2.2.1.1.cell 4 rfl
  have p5 : w3.cell? ⟨w.heap.size, 5, none⟩ = some (.slice none 0 0) := (unhide HS3).2.2.2.1.1.cell 5 rfl
  have n0 : w3.cell? ⟨w.heap.size + 1, 0, none⟩ = some (.func (Fn.func 34) #[] #[]) := (unhide HS3).2.2.2.2.1.cell 0 rfl
  have n1 : w3.cell? ⟨w.heap.size + 1, 1, none⟩ = some (.string ⟨#[34]⟩) := (unhide HS3).2.2.2.2.1.cell 1 rfl
  have n2 : w3.cell? ⟨w.heap.size + 1, 2, none⟩ = some (.func (Fn.func 35) #[] #[]) := (unhide HS3).2.2.2.2.1.cell 2 rfl
  clear hP hG hX
  go_wp2_with fail
  refine (put_new [125] _ _ b _ (l ++ [36, 123] ++ t ++ []) (by first | rfl | simp) (unhide HS3).1 (by simp; omega)).mono ?_
  rintro e w4 ⟨rfl, a4⟩
  clear p0 p1 p2 p3 p4 p5 n0 n1 n2
  obtain ⟨X4, hP, hG, hX⟩ := a4
  have HS4 : Hid (Pg w4 b X4 (l ++ [36, 123] ++ t ++ [] ++ [125]) ∧ GrownS w w4 X ∧ (∀ k, X4 k → X k ∨ w.heap.size ≤ k) ∧ (Blk w4 w.heap.size 37 #[.int .i64 2, .string (BA t), .bool true, .int .i64 0, .bool false, .slice none 0 0] ∧ ¬ X4 w.heap.size) ∧ (Blk w4 (w.heap.size + 1) 45 #[.func (Fn.func 34) #[] #[], .string ⟨#[34]⟩, .func (Fn.func 35) #[] #[]] ∧ ¬ X4 (w.heap.size + 1))) := hide ⟨hP, (unhide HS3).2.1.trans2 hG (fun k hk e => by
      rcases (unhide HS3).2.2.1 k e with e | e
      · exact e
      · omega), fun k hk => by
      rcases hX k hk with e | e
      · exact (unhide HS3).2.2.1 k e
      · exact .inr (Nat.le_trans (unhide HS3).2.1.size e), blk_puts (unhide HS3).2.2.2.1.1 hG hX (unhide HS3).2.2.2.1.2, blk_puts (unhide HS3).2.2.2.2.1 hG hX (unhide HS3).2.2.2.2.2⟩
  have p0 : w4.cell? ⟨w.heap.size, 0, none⟩ = some (.int .i64 2) := (unhide HS4).2.2.2.1.1.cell 0 rfl
  have p1 : w4.cell? ⟨w.heap.size, 1, none⟩ = some (.string (BA t)) := (unhide HS4).2.2.2.1.1.cell 1 rfl
  have p2 : w4.cell? ⟨w.heap.size, 2, none⟩ = some (.bool true) := (unhide HS4).2.2.2.1.1.cell 2 rfl
  have p3 : w4.cell? ⟨w.heap.size, 3, none⟩ = some (.int .i64 0) := (unhide HS4).2.2.2.1.1.cell 3 rfl
  have p4 : w4.cell? ⟨w.heap.size, 4, none⟩ = some (.bool false) := (unhide HS4).2.2.2.1.1.cell 4 rfl
  have p5 : w4.cell? ⟨w.heap.size, 5, none⟩ = some (.slice none 0 0) := (unhide HS4).2.2.2.1.1.cell 5 rfl
  have n0 : w4.cell? ⟨w.heap.size + 1, 0, none⟩ = some (.func (Fn.func 34) #[] #[]) := (unhide HS4).2.2.2.2.1.cell 0 rfl
  have n1 : w4.cell? ⟨w.heap.size + 1, 1, none⟩ = some (.string ⟨#[34]⟩) := (unhide HS4).2.2.2.2.1.cell 1 rfl
  have n2 : w4.cell? ⟨w.heap.size + 1, 2, none⟩ = some (.func (Fn.func 35) #[] #[]) := (unhide HS4).2.2.2.2.1.cell 2 rfl
  clear hP hG hX
  go_wp2
  refine bodyPost_end (res0 rfl _ _) rfl ?_
  exact ⟨rfl, ⟨_, (unhide HS4).1, (unhide HS4).2.1, (unhide HS4).2.2.1⟩⟩
set_option maxRecDepth 20000 in
set_option maxHeartbeats 4000000 in
theorem dollar_zero (t : List UInt8) (w : World) (b : Nat) (X : Nat → Prop) (l : List UInt8) (he : WEnv w) (hb3 : 3 ≤ b) (h : Pg w b X l) (hl : l.length + t.length ≤ 100000) :
    Calls Tryz.prog 67 #[.pointer (some ⟨b, 0, none⟩), .agg #[.int .i64 2, .string (BA t), .bool true, .int .i64 0, .bool false, .slice none 0 0], (.agg #[.func (Fn.func 34) #[] #[], .string ⟨#[34]⟩, .func (Fn.func 35) #[] #[]])] w fun e w' => e = .returned (.tuple #[]) ∧ Puts w b X (l ++ [36, 123] ++ t ++ [] ++ [125]) w' := by
  have hbw := h.lt
  have h2w := he.two
  have hXq0 : ¬ X w.heap.size := fun e => by have := h.hi _ e; omega
  have hXq1 : ¬ X (w.heap.size + 1) := fun e => by have := h.hi _ e; omega
  have hlo := h.lo
  have hbel : Below w.heap.size w ((w.alloc (.cells #[.int .i64 2, .string (BA t), .bool true, .int .i64 0, .bool false, .slice none 0 0] 37)).alloc (.cells #[.func (Fn.func 34) #[] #[], .string ⟨#[34]⟩, .func (Fn.func 35) #[] #[]] 45)) := ((Below.refl _ w).alloc (Nat.le_refl _) _).alloc (by simp) _
  have hB0 : Blk ((w.alloc (.cells #[.int .i64 2, .string (BA t), .bool true, .int .i64 0, .bool false, .slice none 0 0] 37)).alloc (.cells #[.func (Fn.func 34) #[] #[], .string ⟨#[34]⟩, .func (Fn.func 35) #[] #[]] 45)) w.heap.size 37 #[.int .i64 2, .string (BA t), .bool true, .int .i64 0, .bool false, .slice none 0 0] := (Blk.new w _ _).alloc _
  have hN0 : Blk ((w.alloc (.cells #[.int .i64 2, .string (BA t), .bool true, .int .i64 0, .bool false, .slice none 0 0] 37)).alloc (.cells #[.func (Fn.func 34) #[] #[], .string ⟨#[34]⟩, .func (Fn.func 35) #[] #[]] 45)) (w.heap.size + 1) 45 #[.func (Fn.func 34) #[] #[], .string ⟨#[34]⟩, .func (Fn.func 35) #[] #[]] := by
    have := Blk.new (w.alloc (.cells #[.int .i64 2, .string (BA t), .bool true, .int .i64 0, .bool false, .slice none 0 0] 37)) 45 #[.func (Fn.func 34) #[] #[], .string ⟨#[34]⟩, .func (Fn.func 35) #[] #[]]
    rwa [show (w.alloc (.cells #[.int .i64 2, .string (BA t), .bool true, .int .i64 0, .bool false, .slice none 0 0] 37)).heap.size = w.heap.size + 1 by simp] at this
  have HS0 : Hid (Pg ((w.alloc (.cells #[.int .i64 2, .string (BA t), .bool true, .int .i64 0, .bool false, .slice none 0 0] 37)).alloc (.cells #[.func (Fn.func 34) #[] #[], .string ⟨#[34]⟩, .func (Fn.func 35) #[] #[]] 45)) b X l ∧ GrownS w ((w.alloc (.cells #[.int .i64 2, .string (BA t), .bool true, .int .i64 0, .bool false, .slice none 0 0] 37)).alloc (.cells #[.func (Fn.func 34) #[] #[], .string ⟨#[34]⟩, .func (Fn.func 35) #[] #[]] 45)) X ∧ (∀ k, X k → X k ∨ w.heap.size ≤ k) ∧ (Blk ((w.alloc (.cells #[.int .i64 2, .string (BA t), .bool true, .int .i64 0, .bool false, .slice none 0 0] 37)).alloc (.cells #[.func (Fn.func 34) #[] #[], .string ⟨#[34]⟩, .func (Fn.func 35) #[] #[]] 45)) w.heap.size 37 #[.int .i64 2, .string (BA t), .bool true, .int .i64 0, .bool false, .slice none 0 0] ∧ ¬ X w.heap.size) ∧ (Blk ((w.alloc (.cells #[.int .i64 2, .string (BA t), .bool true, .int .i64 0, .bool false, .slice none 0 0] 37)).alloc (.cells #[.func (Fn.func 34) #[] #[], .string ⟨#[34]⟩, .func (Fn.func 35) #[] #[]] 45)) (w.heap.size + 1) 45 #[.func (Fn.func 34) #[] #[], .string ⟨#[34]⟩, .func (Fn.func 35) #[] #[]] ∧ ¬ X (w.heap.size + 1))) := hide ⟨h.below hbel, grownS_of_below hbel, fun _ h => .inl h, ⟨hB0, hXq0⟩, hN0, hXq1⟩
  have HE := hide he
  have HLO := hide hlo
  clear he h hXq0 hXq1 hbel hB0 hN0 hlo
  go_enter Tryz.func67, Tryz.ntmps67
  go_wp2_with fail
  refine (pbrace_zero t _ b X l ((unhide HE).grown (unhide HS0).2.1 (fun k hk => by have := unhide HLO k hk; omega)) hb3 (unhide HS0).1 hl).mono ?_
  rintro e w1 ⟨rfl, a1⟩
  have HA := hide (Puts.trans (unhide HS0).2.1 (unhide HS0).2.2.1 a1)
  clear a1
  go_wp2
  refine bodyPost_end (res0 rfl _ _) rfl ?_
  exact ⟨rfl, unhide HA⟩
set_option maxRecDepth 20000 in
set_option maxHeartbeats 4000000 in
theorem ppart_zero (t : List UInt8) (w : World) (b : Nat) (X : Nat → Prop) (l : List UInt8) (he : WEnv w) (hb3 : 3 ≤ b) (h : Pg w b X l) (hl : l.length + t.length ≤ 99000) :
    Calls Tryz.prog 51 #[.pointer (some ⟨b, 0, none⟩), .agg #[.int .i64 2, .string (BA t), .bool true, .int .i64 0, .bool false, .slice none 0 0], (.agg #[.func (Fn.func 34) #[] #[], .string ⟨#[34]⟩, .func (Fn.func 35) #[] #[]])] w fun e w' => e = .returned (.tuple #[]) ∧ Puts w b X (l ++ [34] ++ [36, 123] ++ t ++ [] ++ [125] ++ [34]) w' := by
  have hbw := h.lt
  have h2w := he.two
  have hXq0 : ¬ X w.heap.size := fun e => by have := h.hi _ e; omega
  have hXq1 : ¬ X (w.heap.size + 1) := fun e => by have := h.hi _ e; omega
  have hlo := h.lo
  have hbel : Below w.heap.size w ((w.alloc (.cells #[.int .i64 2, .string (BA t), .bool true, .int .i64 0, .bool false, .slice none 0 0] 37)).alloc (.cells #[.func (Fn.func 34) #[] #[], .string ⟨#[34]⟩, .func (Fn.func 35) #[] #[]] 45)) := ((Below.refl _ w).alloc (Nat.le_refl _) _).alloc (by simp) _
  have hB0 : Blk ((w.alloc (.cells #[.int .i64 2, .string (BA t), .bool true, .int .i64 0, .bool false, .slice none 0 0] 37)).alloc (.cells #[.func (Fn.func 34) #[] #[], .string ⟨#[34]⟩, .func (Fn.func 35) #[] #[]] 45)) w.heap.size 37 #[.int .i64 2, .string (BA t), .bool true, .int .i64 0, .bool false, .slice none 0 0] := (Blk.new w _ _).alloc _
  have hN0 : Blk ((w.alloc (.cells #[.int .i64 2, .string (BA t), .bool true, .int .i64 0, .bool false, .slice none 0 0] 37)).alloc (.cells #[.func (Fn.func 34) #[] #[], .string ⟨#[34]⟩, .func (Fn.func 35) #[] #[]] 45)) (w.heap.size + 1) 45 #[.func (Fn.func 34) #[] #[], .string ⟨#[34]⟩, .func (Fn.func 35) #[] #[]] := by
    have := Blk.new (w.alloc (.cells #[.int .i64 2, .string (BA t), .bool true, .int .i64 0, .bool false, .slice none 0 0] 37)) 45 #[.func (Fn.func 34) #[] #[], .string ⟨#[34]⟩, .func (Fn.func 35) #[] #[]]
    rwa [show (w.alloc (.cells #[.int .i64 2, .string (BA t), .bool true, .int .i64 0, .bool false, .slice none 0 0] 37)).heap.size = w.heap.size + 1 by simp] at this
  have HS0 : Hid (Pg ((w.alloc (.cells #[.int .i64 2, .string (BA t), .bool true, .int .i64 0, .bool false, .slice none 0 0] 37)).alloc (.cells #[.func (Fn.func 34) #[] #[], .string ⟨#[34]⟩, .func (Fn.func 35) #[] #[]] 45)) b X l ∧ GrownS w ((w.alloc (.cells #[.int .i64 2, .string (BA t), .bool true, .int .i64 0, .bool false, .slice none 0 0] 37)).alloc (.cells #[.func (Fn.func 34) #[] #[], .string ⟨#[34]⟩, .func (Fn.func 35) #[] #[]] 45)) X ∧ (∀ k, X k → X k ∨ w.heap.size ≤ k) ∧ (Blk ((w.alloc (.cells #[.int .i64 2, .string (BA t), .bool true, .int .i64 0, .bool false, .slice none 0 0] 37)).alloc (.cells #[.func (Fn.func 34) #[] #[], .string ⟨#[34]⟩, .func (Fn.func 35) #[] #[]] 45)) w.heap.size 37 #[.int .i64 2, .string (BA t), .bool true, .int .i64 0, .bool false, .slice none 0 0] ∧ ¬ X w.heap.size) ∧ (Blk ((w.alloc (.cells #[.int .i64 2, .string (BA t), .bool true, .int .i64 0, .bool false, .slice none 0 0] 37)).alloc (.cells #[.func (Fn.func 34) #[] #[], .string ⟨#[34]⟩, .func (Fn.func 35) #[] #[]] 45)) (w.heap.size + 1) 45 #[.func (Fn.func 34) #[] #[], .string ⟨#[34]⟩, .func (Fn.func 35) #[] #[]] ∧ ¬ X (w.heap.size + 1))) := hide ⟨h.below hbel, grownS_of_below hbel, fun _ h => .inl h, ⟨hB0, hXq0⟩, hN0, hXq1⟩
  have HE := hide he
  have HLO := hide hlo
  clear he h hXq0 hXq1 hbel hB0 hN0 hlo
  go_enter Tryz.func51, Tryz.ntmps51
  go_wp2_with fail
  refine (put_new [34] _ _ b _ (l) (by first | rfl | simp) (unhide HS0).1 (by simp; omega)).mono ?_
  rintro e w1 ⟨rfl, a1⟩
  obtain ⟨X1, hP, hG, hX⟩ := a1
  have HS1 : Hid (Pg w1 b X1 (l ++ [34]) ∧ GrownS w w1 X ∧ (∀ k, X1 k → X k ∨ w.heap.size ≤ k) ∧ (Blk w1 w.heap.size 37 #[.int .i64 2, .string (BA t), .bool true, .int .i64 0, .bool false, .slice none 0 0] ∧ ¬ X1 w.heap.size) ∧ (Blk w1 (w.heap.size + 1) 45 #[.func (Fn.func 34) #[] #[], .string ⟨#[34]⟩, .func (Fn.func 35) #[] #[]] ∧ ¬ X1 (w.heap.size + 1))) := hide ⟨hP, (unhide HS0).2.1.trans2 hG (fun k hk e => by
      rcases (unhide HS0).2.2.1 k e with e | e
      · exact e
      · omega), fun k hk => by
      rcases hX k hk with e | e
      · exact (unhide HS0).2.2.1 k e
      · exact .inr (Nat.le_trans (unhide HS0).2.1.size e), blk_puts (unhide HS0).2.2.2.1.1 hG hX (unhide HS0).2.2.2.1.2, blk_puts (unhide HS0).2.2.2.2.1 hG hX (unhide HS0).2.2.2.2.2⟩
  have p0 : w1.cell? ⟨w.heap.size, 0, none⟩ = some (.int .i64 2) := (unhide HS1).2.2.2.1.1.cell 0 rfl
  have p1 : w1.cell? ⟨w.heap.size, 1, none⟩ = some (.string (BA t)) := (unhide HS1).2.2.2.1.1.cell 1 rfl
  have p2 : w1.cell? ⟨w.heap.size, 2, none⟩ = some (.bool true) := (unhide HS1).2.2.2.1.1.cell 2 rfl
  have p3 : w1.cell? ⟨w.heap.size, 3, none⟩ = some (.int .i64 0) := (unhide HS1).2.2.2.1.1.cell 3 rfl
  have p4 : w1.cell? ⟨w.heap.size, 4, none⟩ = some (.bool false) := (unhide HS1).2.2.2.1.1.cell 4 rfl
  have p5 : w1.cell? ⟨w.heap.size, 5, none⟩ = some (.slice none 0 0) := (unhide HS1).2.2.2.1.1.cell 5 rfl
  have n0 : w1.cell? ⟨w.heap.size + 1, 0, none⟩ = some (.func (Fn.func 34) #[] #[]) := (unhide HS1).2.2.2.2.1.cell 0 rfl
  have n1 : w1.cell? ⟨w.heap.size + 1, 1, none⟩ = some (.string ⟨#[34]⟩) := (unhide HS1).2.2.2.2.1.cell 1 rfl
  have n2 : w1.cell? ⟨w.heap.size + 1, 2, none⟩ = some (.func (Fn.func 35) #[] #[]) := (unhide HS1).2.2.2.2.1.cell 2 rfl
  clear hP hG hX
  go_wp2_with fail
  refine (dollar_zero t _ b X1 (l ++ [34]) ((unhide HE).grown (unhide HS1).2.1 (fun k hk => by have := unhide HLO k hk; omega)) hb3 (unhide HS1).1 (by simp; omega)).mono ?_
  rintro e w2 ⟨rfl, a2⟩
  clear p0 p1 p2 p3 p4 p5 n0 n1 n2
  obtain ⟨X2, hP, hG, hX⟩ := a2
  have HS2 : Hid (Pg w2 b X2 (l ++ [34] ++ [36, 123] ++ t ++ [] ++ [125]) ∧ GrownS w w2 X ∧ (∀ k, X2 k → X k ∨ w.heap.size ≤ k) ∧ (Blk w2 w.heap.size 37 #[.int .i64 2, .string (BA t), .bool true, .int .i64 0, .bool false, .slice none 0 0] ∧ ¬ X2 w.heap.size) ∧ (Blk w2 (w.heap.size + 1) 45 #[.func (Fn.func 34) #[] #[], .string ⟨#[34]⟩, .func (Fn.func 35) #[] #[]] ∧ ¬ X2 (w.heap.size + 1))) := hide ⟨hP, (unhide HS1).2.1.trans2 hG (fun k hk e => by
      rcases (unhide HS1).2.2.1 k e with e | e
      · exact e
      · omega), fun k hk => by
      rcases hX k hk with e | e
      · exact (unhide HS1).2.2.1 k e
      · exact .inr (Nat.le_trans (unhide HS1).2.1.size e), blk_puts (unhide HS1).2.2.2.1.1 hG hX (unhide HS1).2.2.2.1.2, blk_puts (unhide HS1).2.2.2.2.1 hG hX (unhide HS1).2.2.2.2.2⟩
  have p0 : w2.cell? ⟨w.heap.size, 0, none⟩ = some (.int .i64 2) := (unhide HS2).2.2.2.1.1.cell 0 rfl
  have p1 : w2.cell? ⟨w.heap.size, 1, none⟩ = some (.string (BA t)) := (unhide HS2).2.2.2.1.1.cell 1 rfl
  have p2 : w2.cell? ⟨w.heap.size, 2, none⟩ = some (.bool true) := (unhide HS2).2.2.2.1.1.cell 2 rfl
  have p3 : w2.cell? ⟨w.heap.size, 3, none⟩ = some (.int .i64 0) := (unhide HS2).2.2.2.1.1.cell 3 rfl
  have p4 : w2.cell? ⟨w.heap.size, 4, none⟩ = some (.bool false) := (unhide HS2).2.2.2.1.1.cell 4 rfl
  have p5 : w2.cell? ⟨w.heap.size, 5, none⟩ = some (.slice none 0 0) := (unhide HS2).2.2.2.1.1.cell 5 rfl
  have n0 : w2.cell? ⟨w.heap.size + 1, 0, none⟩ = some (.func (Fn.func 34) #[] #[]) := (unhide HS2).2.2.2.2.1.cell 0 rfl
  have n1 : w2.cell? ⟨w.heap.size + 1, 1, none⟩ = some (.string ⟨#[34]⟩) := (unhide HS2).2.2.2.2.1.cell 1 rfl
  have n2 : w2.cell? ⟨w.heap.size + 1, 2, none⟩ = some (.func (Fn.func 35) #[] #[]) := (unhide HS2).2.2.2.2.1.cell 2 rfl
  clear hP hG hX
  go_wp2_with fail
  refine (put_new [34] _ _ b _ (l ++ [34] ++ [36, 123] ++ t ++ [] ++ [125]) (by first | rfl | simp) (unhide HS2).1 (by simp; omega)).mono ?_
  rintro e w3 ⟨rfl, a3⟩
  clear p0 p1 p2 p3 p4 p5 n0 n1 n2
  obtain ⟨X3, hP, hG, hX⟩ := a3
  have HS3 : Hid (Pg w3 b X3 (l ++ [34] ++ [36, 123] ++ t ++ [] ++ [125] ++ [34]) ∧ GrownS w w3 X ∧ (∀ k, X3 k → X k ∨ w.heap.size ≤ k) ∧ (Blk w3 w.heap.size 37 #[.int .i64 2, .string (BA t), .bool true, .int .i64 0, .bool false, .slice none 0 0] ∧ ¬ X3 w.heap.size) ∧ (Blk w3 (w.heap.size + 1) 45 #[.func (Fn.func 34) #[] #[], .string ⟨#[34]⟩, .func (Fn.func 35) #[] #[]] ∧ ¬ X3 (w.heap.size + 1))) := hide ⟨hP, (unhide HS2).2.1.trans2 hG (fun k hk e => by
      rcases (unhide HS2).2.2.1 k e with e | e
      · exact e
      · omega), fun k hk => by
      rcases hX k hk with e | e
      · exact (unhide HS2).2.2.1 k e
      · exact .inr (Nat.le_trans (unhide HS2).2.1.size e), blk_puts (unhide HS2).2.2.2.1.1 hG hX (unhide HS2).2.2.2.1.2, blk_puts (unhide HS2).2.2.2.2.1 hG hX (unhide HS2).2.2.2.2.2⟩
  have p0 : w3.cell? ⟨w.heap.size, 0, none⟩ = some (.int .i64 2) := (unhide HS3).2.2.2.1.1.cell 0 rfl
  have p1 : w3.cell? ⟨w.heap.size, 1, none⟩ = some (.string (BA t)) := (unhide HS3).2.2.2.1.1.cell 1 rfl
  have p2 : w3.cell? ⟨w.heap.size, 2, none⟩ = some (.bool true) := (unhide HS3).2.2.2.1.1.cell 2 rfl
  have p3 : w3.cell? ⟨w.heap.size, 3, none⟩ = some (.int .i64 0) := (unhide HS3).2.2.2.1.1.cell 3 rfl
  have p4 : w3.cell? ⟨w.heap.size, 4, none⟩ = some (.bool false) := (unhide HS3).2.2.2.1.1.cell 4 rfl
  have p5 : w3.cell? ⟨w.heap.size, 5, none⟩ = some (.slice none 0 0) := (unhide HS3).2.2.2.1.1.cell 5 rfl
  have n0 : w3.cell? ⟨w.heap.size + 1, 0, none⟩ = some (.func (Fn.func 34) #[] #[]) := (unhide HS3).2.2.2.2.1.cell 0 rfl
  have n1 : w3.cell? ⟨w.heap.size + 1, 1, none⟩ = some (.string ⟨#[34]⟩) := (unhide HS3).2.2.2.2.1.cell 1 rfl
  have n2 : w3.cell? ⟨w.heap.size + 1, 2, none⟩ = some (.func (Fn.func 35) #[] #[]) := (unhide HS3).2.2.2.2.1.cell 2 rfl
  clear hP hG hX
  go_wp2
  refine bodyPost_end (res0 rfl _ _) rfl ?_
  exact ⟨rfl, ⟨_, (unhide HS3).1, (unhide HS3).2.1, (unhide HS3).2.2.1⟩⟩
end Go.Proofs.YtnamfjbfcbamjaaGreatDoor
namespace Go.Proofs.YtnamfjbfcbamjaaGreatDoor
open Go.RowKit
theorem own_len {w : World} {base : Nat} {v : Value} {l : List UInt8} (h : OwnB w base v l) : ∃ a c, v = .slice a l.length c := by
  obtain ⟨_, ⟨hv, h0⟩ | ⟨g, cap, cur, hv, _⟩⟩ := h
  · exact ⟨none, 0, by rw [hv, h0]⟩
  · exact ⟨_, _, hv⟩
set_option maxRecDepth 20000 in
set_option maxHeartbeats 4000000 in
theorem pword_one (w : World) (b q : Nat) (X : Nat → Prop) (he : WEnv w) (hb3 : 3 ≤ b) (h : Pg w b X []) (hq : Blk w q 37 #[.int .i64 2, .string (BA [120]), .bool true, .int .i64 0, .bool false, .slice none 0 0]) :
    Calls Tryz.prog 32 #[.pointer (some ⟨b, 0, none⟩), .slice (some ⟨q, 0, none⟩) 1 1, .agg #[.func (Fn.func 34) #[] #[], .string ⟨#[34]⟩, .func (Fn.func 35) #[] #[]]] w fun e w' => e = .returned (.tuple #[]) ∧ Puts w b X [34, 36, 123, 120, 125, 34] w' := by
  have hbw := h.lt
  have h2w := he.two
  have hqw := hq.lt
  have hb1 : Below w.heap.size w (w.alloc (.cells #[.func (Fn.func 34) #[] #[], .string ⟨#[34]⟩, .func (Fn.func 35) #[] #[]] 45)) := (Below.refl _ w).alloc (Nat.le_refl _) _
  have HP : Hid (Pg (w.alloc (.cells #[.func (Fn.func 34) #[] #[], .string ⟨#[34]⟩, .func (Fn.func 35) #[] #[]] 45)) b X [] ∧ Below w.heap.size w (w.alloc (.cells #[.func (Fn.func 34) #[] #[], .string ⟨#[34]⟩, .func (Fn.func 35) #[] #[]] 45))) := hide ⟨h.below hb1, hb1⟩
  have hQ : Blk (w.alloc (.cells #[.func (Fn.func 34) #[] #[], .string ⟨#[34]⟩, .func (Fn.func 35) #[] #[]] 45)) q 37 #[.int .i64 2, .string (BA [120]), .bool true, .int .i64 0, .bool false, .slice none 0 0] := hq.alloc _
  have hN : Blk (w.alloc (.cells #[.func (Fn.func 34) #[] #[], .string ⟨#[34]⟩, .func (Fn.func 35) #[] #[]] 45)) w.heap.size 45 #[.func (Fn.func 34) #[] #[], .string ⟨#[34]⟩, .func (Fn.func 35) #[] #[]] := Blk.new w _ _
  have HQ := hide hQ
  have HN := hide hN
  have HE := hide he
  clear he h hb1 hQ hN hq
  go_enter Tryz.func32, Tryz.ntmps32
  go_wp2_with fail
  go_loopw [10] (fun i wr => ∃ k : Nat, i = .int .i64 k ∧ ((k = 0 ∧ wr = w.alloc (.cells #[.func (Fn.func 34) #[] #[], .string ⟨#[34]⟩, .func (Fn.func 35) #[] #[]] 45)) ∨ (k = 1 ∧ Hid (Puts w b X [34, 36, 123, 120, 125, 34] wr)))) (fun i _ => 1 - (intOf i).toNat)
  case atStart => exact ⟨0, rfl, .inl ⟨rfl, rfl⟩⟩
  case round =>
    obtain ⟨k, rfl, ⟨rfl, hwr⟩ | ⟨rfl, HD⟩⟩ := hrel
    · rw [← hwr] at HP HQ HN
      obtain ⟨bv, h1, h2, h3⟩ := (unhide HP).1
      obtain ⟨ba, bc, rfl⟩ := own_len h2
      have c0 : wr.cell? ⟨b, 0, none⟩ = some (.slice ba 0 bc) := h1.cell 0 rfl
      have p0 : wr.cell? ⟨q, 0, none⟩ = some (.int .i64 2) := (unhide HQ).cell 0 rfl
      have p1 : wr.cell? ⟨q, 1, none⟩ = some (.string (BA [120])) := (unhide HQ).cell 1 rfl
      have p2 : wr.cell? ⟨q, 2, none⟩ = some (.bool true) := (unhide HQ).cell 2 rfl
      have p3 : wr.cell? ⟨q, 3, none⟩ = some (.int .i64 0) := (unhide HQ).cell 3 rfl
      have p4 : wr.cell? ⟨q, 4, none⟩ = some (.bool false) := (unhide HQ).cell 4 rfl
      have p5 : wr.cell? ⟨q, 5, none⟩ = some (.slice none 0 0) := (unhide HQ).cell 5 rfl
      have n0 : wr.cell? ⟨w.heap.size, 0, none⟩ = some (.func (Fn.func 34) #[] #[]) := (unhide HN).cell 0 rfl
      have n1 : wr.cell? ⟨w.heap.size, 1, none⟩ = some (.string ⟨#[34]⟩) := (unhide HN).cell 1 rfl
      have n2 : wr.cell? ⟨w.heap.size, 2, none⟩ = some (.func (Fn.func 35) #[] #[]) := (unhide HN).cell 2 rfl
      have hbr := (unhide HP).1.lt
      have hqr := Blk.lt (unhide HQ)
      have hnr := Blk.lt (unhide HN)
      have HPA : Hid (∀ o, Calls Tryz.prog 51 #[.pointer (some ⟨b, 0, none⟩), .agg #[.int .i64 2, .string (BA [120]), .bool true, .int .i64 0, .bool false, .slice none 0 0], .agg #[.func (Fn.func 34) #[] #[], .string ⟨#[34]⟩, .func (Fn.func 35) #[] #[]]] (wr.alloc o) fun e w' => e = .returned (.tuple #[]) ∧ Puts w b X [34, 36, 123, 120, 125, 34] w') := hide (fun o => by
        have hb2 : Below wr.heap.size wr (wr.alloc o) := (Below.refl _ _).alloc (Nat.le_refl _) _
        have hb3' := (unhide HP).2.trans (hb2.mono (unhide HP).2.size)
        exact (ppart_zero [120] _ b X [] ((unhide HE).below (hb3'.mono (by omega))) hb3 ((unhide HP).1.below hb2) (by simp)).mono (fun _ _ ⟨h1, h2⟩ => ⟨h1, h2.of_below hb3'⟩))
      clear h1 h2 h3 HP HQ HN hwr
      go_wp2_with fail
      refine (unhide HPA _).mono ?_
      rintro e w3 ⟨rfl, a3⟩
      have HD := hide a3
      clear a3
      go_wp2
      go_roundw
      case rel => exact ⟨1, rfl, .inr ⟨rfl, HD⟩⟩
      case measure => simp [intOf]
    · go_wp2
      refine bodyPost_end (res0 rfl _ _) rfl ?_
      exact ⟨rfl, unhide HD⟩
theorem ex_read : wrdL true 0 [34, 36, 123, 120, 125, 34] = .ok [.mk 2 [120] true 0 false []] := by kernel_rfl
theorem results_pen {fn : Func} {t : Tmp} (h : fn.results = #[.cell t 45]) (tmps : Array Value) (w : World) (b : Nat) (a0 a1 a2 : Value) (ht : tmps.getD t undef = .pointer (some ⟨b, 0, none⟩)) (hb : Blk w b 45 #[a0, a1, a2]) :
    (results fn tmps).run Tryz.prog w = .ok (.agg #[a0, a1, a2]) w := by
  have ht' : tmps[t]?.getD undef = .pointer (some ⟨b, 0, none⟩) := by simpa using ht
  have h0 := hb.cell 0 (v := a0) rfl
  have h1 := hb.cell 1 (v := a1) rfl
  have h2 := hb.cell 2 (v := a2) rfl
  simp [results, h, ht', go_sem, h0, h1, h2]
set_option maxHeartbeats 1000000 in
theorem plainPen_any (w : World) : Calls Tryz.prog 21 #[] w fun e w' => e = .returned (.agg #[.func (Fn.func 34) #[] #[], .string ⟨#[34]⟩, .func (Fn.func 35) #[] #[]]) ∧ Below w.heap.size w w' := by
  go_enter Tryz.func21, Tryz.ntmps21
  go_wp2
  exact bodyPost_ret (v := .agg #[.func (Fn.func 34) #[] #[], .string ⟨#[34]⟩, .func (Fn.func 35) #[] #[]]) (results_pen rfl _ _ w.heap.size _ _ _ rfl (Blk.new w _ _)) rfl ⟨rfl, (Below.refl _ _).alloc (Nat.le_refl _) _⟩
set_option maxRecDepth 20000 in
set_option maxHeartbeats 4000000 in
theorem printed_one (w : World) (q : Nat) (he : WEnv w) (hq : Blk w q 37 #[.int .i64 2, .string (BA [120]), .bool true, .int .i64 0, .bool false, .slice none 0 0]) :
    Calls Tryz.prog 20 #[.slice (some ⟨q, 0, none⟩) 1 1, .agg #[.func (Fn.func 34) #[] #[], .string ⟨#[34]⟩, .func (Fn.func 35) #[] #[]], .func (Fn.func 6) #[] #[]] w fun e w' => e = .returned (.tuple #[.string ⟨#[34, 36, 123, 120, 125, 34]⟩, .int .i64 0]) ∧ Below w.heap.size w w' := by
  have h2w := he.two
  have hqw := hq.lt
  have HWA : Hid (WAt w (fun k => k = q) (.slice (some ⟨q, 0, none⟩) 1 1) [.mk 2 [120] true 0 false []]) := hide ⟨_, _, rfl, by simp, .inr ⟨q, 0, rfl, rfl, PsAt.of (fun i p hi => by
    match i, hi with
    | 0, hi =>
      simp at hi
      subst hi
      exact (PAt_mk ..).2 ⟨hq.cell 0 rfl, hq.cell 1 rfl, hq.cell 2 rfl, hq.cell 3 rfl, hq.cell 4 rfl, _, hq.cell 5 rfl, wat_nil _ _ _ _⟩
    | i + 1, hi => simp at hi)⟩⟩
  have HW2 : Hid (∀ o, Below w.heap.size w ((w.alloc o).alloc (.cells #[.slice none 0 0] 67)) ∧ Pg ((w.alloc o).alloc (.cells #[.slice none 0 0] 67)) (w.heap.size + 1) (fun k => k = w.heap.size + 1) []) := hide (fun o => by
    have hb : Below w.heap.size w ((w.alloc o).alloc (.cells #[.slice none 0 0] 67)) := ((Below.refl _ w).alloc (Nat.le_refl _) _).alloc (by simp) _
    refine ⟨hb, .slice none 0 0, ?_, ownB_nil _ _, rfl, by simp [Value.ownBlock], fun k e => by omega, fun k e => by simp; omega⟩
    have := Blk.new (w.alloc o) 67 #[.slice none 0 0]
    rwa [show (w.alloc o).heap.size = w.heap.size + 1 by simp] at this)
  have HE := hide he
  have HQ := hide hq
  clear he hq
  go_enter Tryz.func20, Tryz.ntmps20
  go_wp2_with fail
  refine (pword_one _ (w.heap.size + 1) q _ ((unhide HE).below ((unhide HW2 _).1.mono (by omega))) (by omega) (unhide HW2 _).2 (Blk.below (unhide HQ) (unhide HW2 _).1 hqw)).mono ?_
  rintro e w3 ⟨rfl, X3, ⟨bv, h1, h2, h3⟩, g3, hx3⟩
  have HB3 := hide ((unhide HW2 _).1.trans (g3.below (n := w.heap.size) (by simp; omega) (fun k e => by omega)))
  have c0 : w3.cell? ⟨w.heap.size + 1, 0, none⟩ = some bv := h1.cell 0 rfl
  have hcv := h2.text
  obtain ⟨ba, bn, bc, hbv⟩ := slice_own h2
  subst hbv
  have HPA : Hid (Calls Tryz.prog 6 #[.string (BA [34, 36, 123, 120, 125, 34])] w3 fun e w' => ∃ v, e = .returned (.tuple #[v, .int .i64 0]) ∧ Below w3.heap.size w3 w' ∧ WAt w' (fun k => w3.heap.size ≤ k ∧ k < w'.heap.size) v [.mk 2 [120] true 0 false []]) := hide (by
    have := parse_any [34, 36, 123, 120, 125, 34] w3 ((unhide HE).below ((unhide HB3).mono (by omega))) (by simp)
    rw [ex_read] at this
    exact this)
  clear h1 h2 h3 g3 hx3 HW2
  go_wp2_with fail
  refine (unhide HPA).mono ?_
  rintro e w4 ⟨v, rfl, b4, hv⟩
  have HB4 := hide ((unhide HB3).trans (b4.mono (unhide HB3).size))
  have HSM : Hid (Calls Tryz.prog 33 #[v, .slice (some ⟨q, 0, none⟩) 1 1] w4 fun e w' => e = .returned (.bool true) ∧ Below w4.heap.size w4 w') := hide (by
    have := same_any [.mk 2 [120] true 0 false []] [.mk 2 [120] true 0 false []] v (.slice (some ⟨q, 0, none⟩) 1 1) w4 _ (fun k => k = q) hv ((unhide HWA).below (unhide HB4) (fun k e => by omega)) (fun k h => h.2) (fun k e => by have := (unhide HB4).size; omega)
    rwa [sameW_refl] at this)
  clear b4 hv HPA
  go_wp2_with fail
  refine (unhide HSM).mono ?_
  rintro e w5 ⟨rfl, b5⟩
  have HB5 := hide ((unhide HB4).trans (b5.mono (unhide HB4).size))
  clear b5
  go_wp2
  go_ret2
  exact ⟨rfl, unhide HB5⟩
set_option maxHeartbeats 4000000 in
theorem print_one (w : World) (q : Nat) (he : WEnv w) (hq : Blk w q 37 #[.int .i64 2, .string (BA [120]), .bool true, .int .i64 0, .bool false, .slice none 0 0]) :
    Calls Tryz.prog 12 #[.slice (some ⟨q, 0, none⟩) 1 1] w fun e w' => e = .returned (.tuple #[.string ⟨#[34, 36, 123, 120, 125, 34]⟩, .int .i64 0]) ∧ Below w.heap.size w w' := by
  have h2w := he.two
  have HE := hide he
  have HQ := hide hq
  clear he hq
  go_enter Tryz.func12, Tryz.ntmps12
  go_wp2_with fail
  refine (plainPen_any _).mono ?_
  rintro e w1 ⟨rfl, b1⟩
  have HB := hide b1
  have HP := hide (printed_one w1 q ((unhide HE).below (b1.mono (by omega))) (Blk.below (unhide HQ) b1 (Blk.lt (unhide HQ))))
  clear b1
  go_wp2_with fail
  refine (unhide HP).mono ?_
  rintro e w2 ⟨rfl, b2⟩
  have HB2 := hide ((unhide HB).trans (b2.mono (unhide HB).size))
  clear b2
  go_wp2
  go_ret2
  exact ⟨rfl, unhide HB2⟩
end Go.Proofs.YtnamfjbfcbamjaaGreatDoor

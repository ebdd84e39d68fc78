/-
  Package word's piece and operation.
-/
import Derived.Test.YtodcfgbcigjjfaaDoorWDol
import Derived.Test.YtodcfgbcigjjfaaDoorWAddM
namespace Go.Proofs.YtodcfgbcigjjfaaDoor
open Go.RowKit

theorem flag_true (k : Nat) (c : UInt8) (hk : k < 6) : flagW true k c = (!sngW k && !(dblW k && (c == 34))) := by
  have : k = 0 ∨ k = 1 ∨ k = 2 ∨ k = 3 ∨ k = 4 ∨ k = 5 := by omega
  rcases this with rfl | rfl | rfl | rfl | rfl | rfl <;> unfold flagW sngW dblW <;> simp
theorem beq_34 (c : UInt8) : (c == 34) = ((c.toNat : Int) == 34) := by
  by_cases h : c = 34
  · subst h; rfl
  · rw [beq_false_of_ne h, beq_false_of_ne]
    intro e
    exact h (UInt8.toNat_inj.1 (show c.toNat = 34 by omega))
set_option maxRecDepth 20000 in
set_option maxHeartbeats 4000000 in
theorem wpiece_any (k : Nat) (s : ByteArray) (w : World) (he : WEnv w) (hk : k < 6) (h0 : 0 < s.size) (hs : s.size ≤ 100000) :
    Calls Tryd.prog 52 #[.int .i64 (k : Int), .string s] w fun e w' => e = .returned (.tuple #[.int .i64 (pieceS s 0 (flagW true k s[0])).1, .int .i64 (pieceS s 0 (flagW true k s[0])).2.2]) ∧ Below w.heap.size w w' := by
  have r0 := he.r0 k hk
  have r1 := he.r1 k hk
  have r2 := he.r2 k hk
  have r3 := he.r3 k hk
  have h2 := he.two
  have hf := flag_true k s[0] hk
  rw [beq_34] at hf
  have HP := hide (fun q W => piece_any s 0 q W hs)
  have HW : Hid (∀ o, Below w.heap.size w (w.alloc o)) := hide (fun o => (Below.refl _ w).alloc (Nat.le_refl _) _)
  rw [hf]
  clear he hf
  rcases Bool.eq_false_or_eq_true (sngW k) with a1 | a1
  · rw [a1] at r0 ⊢
    go_enter Tryd.func52, Tryd.ntmps52
    go_wp2_with fail
    refine (unhide HP _ _).mono ?_
    rintro en w1 ⟨rfl, b1⟩
    go_wp2
    go_ret2
    exact ⟨rfl, (unhide HW _).trans (b1.mono (by simp))⟩
  rw [a1] at r0 ⊢
  rcases Bool.eq_false_or_eq_true (dblW k) with a2 | a2
  · rw [a2] at r1 ⊢
    rcases Bool.eq_false_or_eq_true ((s[0].toNat : Int) == 34) with a3 | a3
    · have a3' : (s[0].toNat : Int) = 34 := by simpa using a3
      rw [a3]
      go_enter Tryd.func52, Tryd.ntmps52
      go_wp2_with fail
      refine (unhide HP _ _).mono ?_
      rintro en w1 ⟨rfl, b1⟩
      go_wp2
      go_ret2
      exact ⟨rfl, (unhide HW _).trans (b1.mono (by simp))⟩
    · rw [a3]
      go_enter Tryd.func52, Tryd.ntmps52
      go_wp2_with fail
      refine (unhide HP _ _).mono ?_
      rintro en w1 ⟨rfl, b1⟩
      go_wp2
      go_ret2
      exact ⟨rfl, (unhide HW _).trans (b1.mono (by simp))⟩
  · rw [a2] at r1 ⊢
    go_enter Tryd.func52, Tryd.ntmps52
    go_wp2_with fail
    refine (unhide HP _ _).mono ?_
    rintro en w1 ⟨rfl, b1⟩
    go_wp2
    go_ret2
    exact ⟨rfl, (unhide HW _).trans (b1.mono (by simp))⟩

/-- The signs of Ops. -/
def sgnT : List (List UInt8 × Int) := [([45], 2), ([61], 3), ([63], 4), ([43], 5), ([35, 35], 7), ([35], 6), ([37, 37], 9), ([37], 8)]
def sgnOk (c : Bool) (t : List UInt8) (x : List UInt8 × Int) : Bool := Lib.hasPrefix t x.1 && !(c && decide (6 ≤ x.2))
def sgnFrom (c : Bool) (t : List UInt8) (k : Nat) : Option (Int × List UInt8) := ((sgnT.drop k).find? (sgnOk c t)).map (fun x => (x.2, t.drop x.1.length))
theorem sgnFrom_yes {c : Bool} {t : List UInt8} {k : Nat} {x : List UInt8 × Int} {r : List (List UInt8 × Int)} (hk : sgnT.drop k = x :: r) (h : sgnOk c t x = true) : sgnFrom c t k = some (x.2, t.drop x.1.length) := by
  unfold sgnFrom
  rw [hk, List.find?_cons, h]
  rfl
theorem sgnFrom_no {c : Bool} {t : List UInt8} {k : Nat} {x : List UInt8 × Int} {r : List (List UInt8 × Int)} (hk : sgnT.drop k = x :: r) (h : sgnOk c t x = false) : sgnFrom c t k = sgnFrom c t (k + 1) := by
  unfold sgnFrom
  rw [hk, List.find?_cons, h, ← List.drop_drop, hk]
  rfl
theorem sgn_eq (c : Bool) (t : List UInt8) : sgnFrom c t 0 = sgnL c t := by
  unfold sgnFrom sgnT sgnOk
  match t with
  | [] => cases c <;> rfl
  | [x] =>
    by_cases h1 : x = 45
    · subst h1; cases c <;> rfl
    by_cases h2 : x = 61
    · subst h2; cases c <;> rfl
    by_cases h3 : x = 63
    · subst h3; cases c <;> rfl
    by_cases h4 : x = 43
    · subst h4; cases c <;> rfl
    by_cases h5 : x = 35
    · subst h5; cases c <;> rfl
    by_cases h6 : x = 37
    · subst h6; cases c <;> rfl
    have e : sgnL c [x] = none := by unfold sgnL; split <;> simp_all
    rw [e]
    cases c <;> simp [Lib.hasPrefix, List.isPrefixOf, Ne.symm h1, Ne.symm h2, Ne.symm h3, Ne.symm h4, Ne.symm h5, Ne.symm h6]
  | x :: y :: r =>
    by_cases h1 : x = 45
    · subst h1; cases c <;> simp [Lib.hasPrefix, List.isPrefixOf, sgnL]
    by_cases h2 : x = 61
    · subst h2; cases c <;> simp [Lib.hasPrefix, List.isPrefixOf, sgnL]
    by_cases h3 : x = 63
    · subst h3; cases c <;> simp [Lib.hasPrefix, List.isPrefixOf, sgnL]
    by_cases h4 : x = 43
    · subst h4; cases c <;> simp [Lib.hasPrefix, List.isPrefixOf, sgnL]
    by_cases h5 : x = 35
    · subst h5
      by_cases h7 : y = 35
      · subst h7; cases c <;> simp [Lib.hasPrefix, List.isPrefixOf, sgnL]
      · have e : sgnL c (35 :: y :: r) = if c then none else some (6, y :: r) := by unfold sgnL; split <;> simp_all
        rw [e]
        cases c <;> simp [Lib.hasPrefix, List.isPrefixOf, Ne.symm h7]
    by_cases h6 : x = 37
    · subst h6
      by_cases h7 : y = 37
      · subst h7; cases c <;> simp [Lib.hasPrefix, List.isPrefixOf, sgnL]
      · have e : sgnL c (37 :: y :: r) = if c then none else some (8, y :: r) := by unfold sgnL; split <;> simp_all
        rw [e]
        cases c <;> simp [Lib.hasPrefix, List.isPrefixOf, Ne.symm h7]
    have e : sgnL c (x :: y :: r) = none := by unfold sgnL; split <;> simp_all
    rw [e]
    cases c <;> simp [Lib.hasPrefix, List.isPrefixOf, Ne.symm h1, Ne.symm h2, Ne.symm h3, Ne.symm h4, Ne.symm h5, Ne.symm h6]

theorem sidx0 (w : World) : (Instr.index 97 (Value.agg #[Value.string ⟨#[45]⟩, Value.int IntKind.i64 2, Value.string ⟨#[61]⟩, Value.int IntKind.i64 3, Value.string ⟨#[63]⟩, Value.int IntKind.i64 4, Value.string ⟨#[43]⟩, Value.int IntKind.i64 5, Value.string ⟨#[35, 35]⟩, Value.int IntKind.i64 7, Value.string ⟨#[35]⟩, Value.int IntKind.i64 6, Value.string ⟨#[37, 37]⟩, Value.int IntKind.i64 9, Value.string ⟨#[37]⟩, Value.int IntKind.i64 8]) (Value.int IntKind.i64 0)).run Tryd.prog w = .ok (.agg #[.string ⟨#[45]⟩, .int .i64 2]) w := by kernel_rfl
theorem sidx1 (w : World) : (Instr.index 97 (Value.agg #[Value.string ⟨#[45]⟩, Value.int IntKind.i64 2, Value.string ⟨#[61]⟩, Value.int IntKind.i64 3, Value.string ⟨#[63]⟩, Value.int IntKind.i64 4, Value.string ⟨#[43]⟩, Value.int IntKind.i64 5, Value.string ⟨#[35, 35]⟩, Value.int IntKind.i64 7, Value.string ⟨#[35]⟩, Value.int IntKind.i64 6, Value.string ⟨#[37, 37]⟩, Value.int IntKind.i64 9, Value.string ⟨#[37]⟩, Value.int IntKind.i64 8]) (Value.int IntKind.i64 1)).run Tryd.prog w = .ok (.agg #[.string ⟨#[61]⟩, .int .i64 3]) w := by kernel_rfl
theorem sidx2 (w : World) : (Instr.index 97 (Value.agg #[Value.string ⟨#[45]⟩, Value.int IntKind.i64 2, Value.string ⟨#[61]⟩, Value.int IntKind.i64 3, Value.string ⟨#[63]⟩, Value.int IntKind.i64 4, Value.string ⟨#[43]⟩, Value.int IntKind.i64 5, Value.string ⟨#[35, 35]⟩, Value.int IntKind.i64 7, Value.string ⟨#[35]⟩, Value.int IntKind.i64 6, Value.string ⟨#[37, 37]⟩, Value.int IntKind.i64 9, Value.string ⟨#[37]⟩, Value.int IntKind.i64 8]) (Value.int IntKind.i64 2)).run Tryd.prog w = .ok (.agg #[.string ⟨#[63]⟩, .int .i64 4]) w := by kernel_rfl
theorem sidx3 (w : World) : (Instr.index 97 (Value.agg #[Value.string ⟨#[45]⟩, Value.int IntKind.i64 2, Value.string ⟨#[61]⟩, Value.int IntKind.i64 3, Value.string ⟨#[63]⟩, Value.int IntKind.i64 4, Value.string ⟨#[43]⟩, Value.int IntKind.i64 5, Value.string ⟨#[35, 35]⟩, Value.int IntKind.i64 7, Value.string ⟨#[35]⟩, Value.int IntKind.i64 6, Value.string ⟨#[37, 37]⟩, Value.int IntKind.i64 9, Value.string ⟨#[37]⟩, Value.int IntKind.i64 8]) (Value.int IntKind.i64 3)).run Tryd.prog w = .ok (.agg #[.string ⟨#[43]⟩, .int .i64 5]) w := by kernel_rfl
theorem sidx4 (w : World) : (Instr.index 97 (Value.agg #[Value.string ⟨#[45]⟩, Value.int IntKind.i64 2, Value.string ⟨#[61]⟩, Value.int IntKind.i64 3, Value.string ⟨#[63]⟩, Value.int IntKind.i64 4, Value.string ⟨#[43]⟩, Value.int IntKind.i64 5, Value.string ⟨#[35, 35]⟩, Value.int IntKind.i64 7, Value.string ⟨#[35]⟩, Value.int IntKind.i64 6, Value.string ⟨#[37, 37]⟩, Value.int IntKind.i64 9, Value.string ⟨#[37]⟩, Value.int IntKind.i64 8]) (Value.int IntKind.i64 4)).run Tryd.prog w = .ok (.agg #[.string ⟨#[35, 35]⟩, .int .i64 7]) w := by kernel_rfl
theorem sidx5 (w : World) : (Instr.index 97 (Value.agg #[Value.string ⟨#[45]⟩, Value.int IntKind.i64 2, Value.string ⟨#[61]⟩, Value.int IntKind.i64 3, Value.string ⟨#[63]⟩, Value.int IntKind.i64 4, Value.string ⟨#[43]⟩, Value.int IntKind.i64 5, Value.string ⟨#[35, 35]⟩, Value.int IntKind.i64 7, Value.string ⟨#[35]⟩, Value.int IntKind.i64 6, Value.string ⟨#[37, 37]⟩, Value.int IntKind.i64 9, Value.string ⟨#[37]⟩, Value.int IntKind.i64 8]) (Value.int IntKind.i64 5)).run Tryd.prog w = .ok (.agg #[.string ⟨#[35]⟩, .int .i64 6]) w := by kernel_rfl
theorem sidx6 (w : World) : (Instr.index 97 (Value.agg #[Value.string ⟨#[45]⟩, Value.int IntKind.i64 2, Value.string ⟨#[61]⟩, Value.int IntKind.i64 3, Value.string ⟨#[63]⟩, Value.int IntKind.i64 4, Value.string ⟨#[43]⟩, Value.int IntKind.i64 5, Value.string ⟨#[35, 35]⟩, Value.int IntKind.i64 7, Value.string ⟨#[35]⟩, Value.int IntKind.i64 6, Value.string ⟨#[37, 37]⟩, Value.int IntKind.i64 9, Value.string ⟨#[37]⟩, Value.int IntKind.i64 8]) (Value.int IntKind.i64 6)).run Tryd.prog w = .ok (.agg #[.string ⟨#[37, 37]⟩, .int .i64 9]) w := by kernel_rfl
theorem sidx7 (w : World) : (Instr.index 97 (Value.agg #[Value.string ⟨#[45]⟩, Value.int IntKind.i64 2, Value.string ⟨#[61]⟩, Value.int IntKind.i64 3, Value.string ⟨#[63]⟩, Value.int IntKind.i64 4, Value.string ⟨#[43]⟩, Value.int IntKind.i64 5, Value.string ⟨#[35, 35]⟩, Value.int IntKind.i64 7, Value.string ⟨#[35]⟩, Value.int IntKind.i64 6, Value.string ⟨#[37, 37]⟩, Value.int IntKind.i64 9, Value.string ⟨#[37]⟩, Value.int IntKind.i64 8]) (Value.int IntKind.i64 7)).run Tryd.prog w = .ok (.agg #[.string ⟨#[37]⟩, .int .i64 8]) w := by kernel_rfl

theorem colon_has (l : List UInt8) : Lib.hasPrefix l [58] = colonL l := by
  unfold colonL
  cases l with
  | nil => rfl
  | cons c r => rw [hasP_one]; simp [Bool.beq_eq_decide_eq]
theorem colon_trim (l : List UInt8) : Lib.trimPrefix l [58] = behindL l := by
  unfold behindL Lib.trimPrefix
  rw [colon_has]
  rfl
/-- A part's block, its Op and Colon as they are. -/
def PBk (w : World) (b : Nat) (k0 t0 q0 v0 : Value) (o : Int) (c : Bool) : Prop := Blk w b 35 #[k0, t0, q0, .int .i64 o, .bool c, v0]
theorem PBk.colon {w : World} {b : Nat} {k0 t0 q0 v0 : Value} {o : Int} {c : Bool} (h : PBk w b k0 t0 q0 v0 o c) (c' : Bool) : PBk (w.setCell ⟨b, 4, none⟩ (.bool c')) b k0 t0 q0 v0 o c' := by
  have := Blk.set h 4 (.bool c')
  simpa [PBk] using this
theorem PBk.opn {w : World} {b : Nat} {k0 t0 q0 v0 : Value} {o : Int} {c : Bool} (h : PBk w b k0 t0 q0 v0 o c) (o' : Int) : PBk (w.setCell ⟨b, 3, none⟩ (.int .i64 o')) b k0 t0 q0 v0 o' c := by
  have := Blk.set h 3 (.int .i64 o')
  simpa [PBk] using this
def OpEnd (w : World) (b : Nat) (k0 t0 q0 v0 : Value) (l : List UInt8) (en : Ending) (w' : World) : Prop :=
  match sgnL (colonL l) (behindL l) with
  | none => en = .returned (.tuple #[.string ⟨#[]⟩, .bool false]) ∧ GrownS w w' (fun k => k = b)
  | some (o, r) => en = .returned (.tuple #[.string (BA r), .bool true]) ∧ GrownS w w' (fun k => k = b) ∧ PBk w' b k0 t0 q0 v0 o (colonL l)
theorem opEnd_none {w w' : World} {b : Nat} {k0 t0 q0 v0 : Value} {l : List UInt8} {en : Ending} (h : none = sgnL (colonL l) (behindL l)) (h1 : en = .returned (.tuple #[.string ⟨#[]⟩, .bool false])) (h2 : GrownS w w' (fun k => k = b)) : OpEnd w b k0 t0 q0 v0 l en w' := by
  unfold OpEnd
  rw [← h]
  exact ⟨h1, h2⟩
theorem opEnd_some {w w' : World} {b : Nat} {k0 t0 q0 v0 : Value} {l r : List UInt8} {o : Int} {en : Ending} (h : some (o, r) = sgnL (colonL l) (behindL l)) (h1 : en = .returned (.tuple #[.string (BA r), .bool true])) (h2 : GrownS w w' (fun k => k = b)) (h3 : PBk w' b k0 t0 q0 v0 o (colonL l)) : OpEnd w b k0 t0 q0 v0 l en w' := by
  unfold OpEnd
  rw [← h]
  exact ⟨h1, h2, h3⟩
set_option maxRecDepth 20000 in
set_option maxHeartbeats 8000000 in
theorem operation_any (l : List UInt8) (b : Nat) (k0 t0 q0 v0 : Value) (o0 : Int) (c0 : Bool) (w : World) (he : WEnv w) (hb : PBk w b k0 t0 q0 v0 o0 c0) (hb3 : 3 ≤ b) :
    Calls Tryd.prog 89 #[.pointer (some ⟨b, 0, none⟩), .string (BA l)] w fun e w' => OpEnd w b k0 t0 q0 v0 l e w' := by
  have HC : Hid (∀ W, Calls Tryd.prog 87 #[.string (BA l), .string ⟨#[58]⟩] W fun e w' => e = .returned (.tuple #[.string (BA (behindL l)), .bool (colonL l)]) ∧ w' = W) := hide (fun W => by
    have := Tryd.strings_CutPrefix (BA l) ⟨#[58]⟩ W
    rw [show Lib.hasPrefix (BA l).data.toList (⟨#[58]⟩ : ByteArray).data.toList = colonL l from colon_has l, show Lib.trimPrefix (BA l).data.toList (⟨#[58]⟩ : ByteArray).data.toList = behindL l from colon_trim l] at this
    exact this)
  have b4 : w.cell? ⟨b, 4, none⟩ = some (.bool c0) := Blk.cell hb 4 rfl
  have z4 : w.frozen? ⟨b, 4, none⟩ = false := Blk.frozen hb 4
  have HB1 := hide (hb.colon (colonL l))
  have HG1 := hide (setb_grown w b 4 (.bool (colonL l)))
  have HE : Hid (∀ l e w', OpEnd w b k0 t0 q0 v0 l e w' → OpEnd w b k0 t0 q0 v0 l e w') := hide (fun _ _ _ h => h)
  obtain ⟨c, hc⟩ : ∃ c, c = colonL l := ⟨_, rfl⟩
  obtain ⟨t, ht⟩ : ∃ t, t = behindL l := ⟨_, rfl⟩
  rw [← hc] at HC HB1 HG1
  rw [← ht] at HC
  have hS0 : sgnFrom c t 0 = sgnL (colonL l) (behindL l) := by rw [hc, ht]; exact sgn_eq _ _
  have HC2 := hide hc
  have hcells : ∀ j, j < 16 → (w.setCell ⟨b, 4, none⟩ (.bool c)).cell? ⟨1, j, none⟩ = _ := fun j hj => (World.cell?_of_block (w := w) (a := ⟨1, j, none⟩) (Below.heap_setCell w ⟨b, 4, none⟩ (.bool c) 1 (by show _ ≠ b; omega))).trans (he.sg j hj)
  have a0 := hcells 0 (by decide)
  have a1 := hcells 1 (by decide)
  have a2 := hcells 2 (by decide)
  have a3 := hcells 3 (by decide)
  have a4 := hcells 4 (by decide)
  have a5 := hcells 5 (by decide)
  have a6 := hcells 6 (by decide)
  have a7 := hcells 7 (by decide)
  have a8 := hcells 8 (by decide)
  have a9 := hcells 9 (by decide)
  have a10 := hcells 10 (by decide)
  have a11 := hcells 11 (by decide)
  have a12 := hcells 12 (by decide)
  have a13 := hcells 13 (by decide)
  have a14 := hcells 14 (by decide)
  have a15 := hcells 15 (by decide)
  simp only [List.getElem?_cons_zero, List.getElem?_cons_succ] at a0 a1 a2 a3 a4 a5 a6 a7 a8 a9 a10 a11 a12 a13 a14 a15
  have HS0 := hide hS0
  clear hcells hS0 hb he hc ht
  go_enter Tryd.func89, Tryd.ntmps89
  go_wp2_with fail
  refine (unhide HC _).mono ?_
  rintro en w1 ⟨rfl, hw1⟩
  have hw2 := hw1.symm
  subst hw2
  clear hw1
  go_wp2_with fail
  go_loopw [19] (fun x wr => ∃ k : Int, x = .int .i64 k ∧ 0 ≤ k ∧ k ≤ 8 ∧ Hid (sgnFrom c t k.toNat = sgnL (colonL l) (behindL l)) ∧ Hid (PBk wr b k0 t0 q0 v0 o0 c ∧ GrownS w wr (fun j => j = b))) (fun x _ => 8 - (intOf x).toNat)
  case atStart => exact ⟨0, rfl, by decide, by decide, HS0, hide ⟨unhide HB1, unhide HG1⟩⟩
  case round =>
    clear a0 a1 a2 a3 a4 a5 a6 a7 a8 a9 a10 a11 a12 a13 a14 a15 b4 z4 HS0 HC HB1 HG1
    obtain ⟨k, rfl, hk0, hk1, HK, HW⟩ := hrel
    by_cases hk8 : k = 8
    · subst hk8
      have HR : Hid (none = sgnL (colonL l) (behindL l)) := HK
      clear HK
      go_wp2
      go_ret2
      exact opEnd_none (unhide HR) rfl (unhide HW).2
    have hcs : k = 0 ∨ k = 1 ∨ k = 2 ∨ k = 3 ∨ k = 4 ∨ k = 5 ∨ k = 6 ∨ k = 7 := by omega
    clear hk0 hk1 hk8
    have b4 : wr.cell? ⟨b, 4, none⟩ = some (.bool c) := Blk.cell (unhide HW).1 4 rfl
    have b3 : wr.cell? ⟨b, 3, none⟩ = some (.int .i64 o0) := Blk.cell (unhide HW).1 3 rfl
    have z3 : wr.frozen? ⟨b, 3, none⟩ = false := Blk.frozen (unhide HW).1 3
    have hbl : b < wr.heap.size := Blk.lt (unhide HW).1
    have HAL : Hid (∀ o, PBk (wr.alloc o) b k0 t0 q0 v0 o0 c ∧ GrownS w (wr.alloc o) (fun j => j = b)) := hide (fun o => ⟨Blk.alloc (unhide HW).1 o, (unhide HW).2.trans (GrownS.of (World.grownBy_alloc wr o none) (by simp))⟩)
    have HAL2 : Hid (∀ (o : Obj) (o' : Int), PBk ((wr.setCell ⟨b, 3, none⟩ (.int .i64 o')).alloc o) b k0 t0 q0 v0 o' c ∧ GrownS w ((wr.setCell ⟨b, 3, none⟩ (.int .i64 o')).alloc o) (fun j => j = b)) := hide (fun o o' => ⟨Blk.alloc ((unhide HW).1.opn o') o, ((unhide HW).2.trans (setb_grown _ b 3 _)).trans (GrownS.of (World.grownBy_alloc _ o none) (by simp))⟩)
    have HCP : Hid (∀ W (x : ByteArray), Calls Tryd.prog 87 #[.string (BA t), .string x] W fun e w' => e = .returned (.tuple #[.string ⟨(Lib.trimPrefix t x.data.toList).toArray⟩, .bool (Lib.hasPrefix t x.data.toList)]) ∧ w' = W) := hide (fun W x => Tryd.strings_CutPrefix (BA t) x W)
    rcases hcs with rfl | rfl | rfl | rfl | rfl | rfl | rfl | rfl
    all_goals
      have hidx0 := sidx0 wr
      have hidx1 := sidx1 wr
      have hidx2 := sidx2 wr
      have hidx3 := sidx3 wr
      have hidx4 := sidx4 wr
      have hidx5 := sidx5 wr
      have hidx6 := sidx6 wr
      have hidx7 := sidx7 wr
      go_wp2_with fail
      refine (unhide HCP _ _).mono ?_
      rintro en w4 ⟨rfl, hw4⟩
      have hw5 := hw4.symm
      subst hw5
      clear hw4 hidx0 hidx1 hidx2 hidx3 hidx4 hidx5 hidx6 hidx7
      generalize hv : Lib.hasPrefix t _ = v
      generalize htt : Lib.trimPrefix t _ = tt
      have HTT := hide htt
      clear htt
      cases v
      · have HN := hide ((sgnFrom_no (c := c) (t := t) rfl (by unfold sgnOk; rw [show Lib.hasPrefix t _ = false from hv, Bool.false_and])).symm.trans (unhide HK))
        clear hv
        go_wp2
        go_roundw
        case rel => exact ⟨_, rfl, by decide, by decide, HN, hide (unhide HAL _)⟩
        case measure => simp [intOf]
      · cases c
        · have HY := hide ((sgnFrom_yes (c := false) (t := t) rfl (by unfold sgnOk; rw [show Lib.hasPrefix t _ = true from hv] <;> rfl)).symm.trans (unhide HK))
          have HT2 := hide ((show Lib.trimPrefix t _ = _ from by unfold Lib.trimPrefix; rw [show Lib.hasPrefix t _ = true from hv] <;> rfl).symm.trans (unhide HTT))
          clear hv
          go_wp2
          go_ret2
          refine opEnd_some (unhide HY) ?_ (unhide HAL2 _ _).2 (by rw [← unhide HC2]; exact (unhide HAL2 _ _).1)
          rw [← unhide HT2]
          rfl
        · first
          | (have HY := hide ((sgnFrom_yes (c := true) (t := t) rfl (by unfold sgnOk; rw [show Lib.hasPrefix t _ = true from hv] <;> rfl)).symm.trans (unhide HK))
             have HT2 := hide ((show Lib.trimPrefix t _ = _ from by unfold Lib.trimPrefix; rw [show Lib.hasPrefix t _ = true from hv] <;> rfl).symm.trans (unhide HTT))
             clear hv
             go_wp2
             go_ret2
             refine opEnd_some (unhide HY) ?_ (unhide HAL2 _ _).2 (by rw [← unhide HC2]; exact (unhide HAL2 _ _).1)
             rw [← unhide HT2]
             rfl)
          | (have HN := hide ((sgnFrom_no (c := true) (t := t) rfl (by unfold sgnOk; rw [show Lib.hasPrefix t _ = true from hv] <;> rfl)).symm.trans (unhide HK))
             clear hv
             go_wp2
             go_roundw
             case rel => exact ⟨_, rfl, by decide, by decide, HN, hide (unhide HAL _)⟩
             case measure => simp [intOf])

end Go.Proofs.YtodcfgbcigjjfaaDoor

/- Package word's piece and operation.; Package word's pair and short: what they add to the list.; Package word's short. -/
import Derived.Test.YtojjfdobilkknaaGreatDoorM15
import Derived.Test.YtojjfdobilkknaaGreatDoorM14
import Derived.Deep.RegionWith
set_option maxRecDepth 20000
set_option maxHeartbeats 8000000
namespace Go.Proofs.YtojjfdobilkknaaGreatDoor
open Go.RowKit
theorem flag_true (k : Nat) (c : UInt8) (hk : k < 6) : flagW true k c = (!sngW k && !(dblW k && (c == 34))) := by
 have : k = 0 ∨ k = 1 ∨ k = 2 ∨ k = 3 ∨ k = 4 ∨ k = 5 := by omega
 rcases this with rfl | rfl | rfl | rfl | rfl | rfl <;> unfold flagW sngW dblW <;> simp
theorem beq_34 (c : UInt8) : (c == 34) = ((c.toNat : Int) == 34) := by
 by_cases h : c = 34
 ·subst h; rfl
 ·rw [beq_false_of_ne h, beq_false_of_ne]
  intro e
  exact h (UInt8.toNat_inj.1 (show c.toNat = 34 by omega))
theorem wpiece_any (k : Nat) (s : ByteArray) (w : World) (he : WEnv w) (hk : k < 6) (h0 : 0 < s.size) (hs : s.size ≤ 100000) :
 Calls Tryz.prog 149 #[.int .i64 (k : Int), .string s] w fun e w' => e = .returned (.tuple #[.int .i64 (pieceS s 0 (flagW true k s[0])).1, .int .i64 (pieceS s 0 (flagW true k s[0])).2.2]) ∧ Below w.heap.size w w' := by
 have r0 := he.r0 k hk
 have r1 := he.r1 k hk
 have r2 := he.r2 k hk
 have r3 := he.r3 k hk
 have h2 := he.two
 have hf := flag_true k s[0] hk
 rw [beq_34] at hf
 have HP := hide (fun q W => piece_any s 0 q W hs)
 have HW : Hid (∀ o, Below w.heap.size w (w.alloc o)) := hide (fun o => (Below.refl _ w).alloc (ler _) _)
 rw [hf]
 clear he hf
 rcases Bool.eq_false_or_eq_true (sngW k) with a1 | a1
 ·rw [a1] at r0 ⊢
  go_enter Tryz.func149, Tryz.ntmps149
  go_wp2_with fail
  refine (uh HP _ _).mono ?_
  rintro en w1 ⟨rfl, b1⟩
  go_wp2
  go_ret2
  exact ⟨rfl, (uh HW _).trans (b1.mono (by simp))⟩
 rw [a1] at r0 ⊢
 rcases Bool.eq_false_or_eq_true (dblW k) with a2 | a2
 ·rw [a2] at r1 ⊢
  rcases Bool.eq_false_or_eq_true ((s[0].toNat : Int) == 34) with a3 | a3
  ·have a3' : (s[0].toNat : Int) = 34 := by simpa using a3
   rw [a3]
   go_enter Tryz.func149, Tryz.ntmps149
   go_wp2_with fail
   refine (uh HP _ _).mono ?_
   rintro en w1 ⟨rfl, b1⟩
   go_wp2
   go_ret2
   exact ⟨rfl, (uh HW _).trans (b1.mono (by simp))⟩
  ·rw [a3]
   go_enter Tryz.func149, Tryz.ntmps149
   go_wp2_with fail
   refine (uh HP _ _).mono ?_
   rintro en w1 ⟨rfl, b1⟩
   go_wp2
   go_ret2
   exact ⟨rfl, (uh HW _).trans (b1.mono (by simp))⟩
 ·rw [a2] at r1 ⊢
  go_enter Tryz.func149, Tryz.ntmps149
  go_wp2_with fail
  refine (uh HP _ _).mono ?_
  rintro en w1 ⟨rfl, b1⟩
  go_wp2
  go_ret2
  exact ⟨rfl, (uh HW _).trans (b1.mono (by simp))⟩
def sgnT : List (List UInt8 × Int) := [([45], 2), ([61], 3), ([63], 4), ([43], 5), ([35, 35], 7), ([35], 6), ([37, 37], 9), ([37], 8)]
def sgnOk (c : Bool) (t : List UInt8) (x : List UInt8 × Int) : Bool := Lib.hasPrefix t x.1 && !(c && decide (6 ≤ x.2))
def sgnFrom (c : Bool) (t : List UInt8) (k : Nat) : Option (Int × List UInt8) := ((sgnT.drop k).find? (sgnOk c t)).map (fun x => (x.2, t.drop x.1.length))
theorem sgnFrom_yes {c : Bool} {t : List UInt8} {k : Nat} {x : List UInt8 × Int} {r : List (List UInt8 × Int)} (hk : sgnT.drop k = x :: r) (h : sgnOk c t x = true) : sgnFrom c t k = some (x.2, t.drop x.1.length) := by
 unfold sgnFrom
 rw [hk, List.find?_cons, h]
 rfl
theorem sgnFrom_no {c : Bool} {t : List UInt8} {k : Nat} {x : List UInt8 × Int} {r : List (List UInt8 × Int)} (hk : sgnT.drop k = x :: r) (h : sgnOk c t x = false) : sgnFrom c t k = sgnFrom c t (k + 1) := by
 unfold sgnFrom
 rw [hk, List.find?_cons, h, ← List.drop_drop, hk]
 rfl
theorem sgn_eq (c : Bool) (t : List UInt8) : sgnFrom c t 0 = sgnL c t := by
 unfold sgnFrom sgnT sgnOk
 match t with
 | [] => cases c <;> rfl
 | [x] =>
   by_cases h1 : x = 45
   ·subst h1; cases c <;> rfl
   by_cases h2 : x = 61
   ·subst h2; cases c <;> rfl
   by_cases h3 : x = 63
   ·subst h3; cases c <;> rfl
   by_cases h4 : x = 43
   ·subst h4; cases c <;> rfl
   by_cases h5 : x = 35
   ·subst h5; cases c <;> rfl
   by_cases h6 : x = 37
   ·subst h6; cases c <;> rfl
   have e : sgnL c [x] = none := by unfold sgnL; split <;> simp_all
   rw [e]
   cases c <;> simp [Lib.hasPrefix, List.isPrefixOf, Ne.symm h1, Ne.symm h2, Ne.symm h3, Ne.symm h4, Ne.symm h5, Ne.symm h6]
 | x :: y :: r =>
   by_cases h1 : x = 45
   ·subst h1; cases c <;> simp [Lib.hasPrefix, List.isPrefixOf, sgnL]
   by_cases h2 : x = 61
   ·subst h2; cases c <;> simp [Lib.hasPrefix, List.isPrefixOf, sgnL]
   by_cases h3 : x = 63
   ·subst h3; cases c <;> simp [Lib.hasPrefix, List.isPrefixOf, sgnL]
   by_cases h4 : x = 43
   ·subst h4; cases c <;> simp [Lib.hasPrefix, List.isPrefixOf, sgnL]
   by_cases h5 : x = 35
   ·subst h5
    by_cases h7 : y = 35
    ·subst h7; cases c <;> simp [Lib.hasPrefix, List.isPrefixOf, sgnL]
    ·have e : sgnL c (35 :: y :: r) = if c then none else some (6, y :: r) := by unfold sgnL; split <;> simp_all
     rw [e]
     cases c <;> simp [Lib.hasPrefix, List.isPrefixOf, Ne.symm h7]
   by_cases h6 : x = 37
   ·subst h6
    by_cases h7 : y = 37
    ·subst h7; cases c <;> simp [Lib.hasPrefix, List.isPrefixOf, sgnL]
    ·have e : sgnL c (37 :: y :: r) = if c then none else some (8, y :: r) := by unfold sgnL; split <;> simp_all
     rw [e]
     cases c <;> simp [Lib.hasPrefix, List.isPrefixOf, Ne.symm h7]
   have e : sgnL c (x :: y :: r) = none := by unfold sgnL; split <;> simp_all
   rw [e]
   cases c <;> simp [Lib.hasPrefix, List.isPrefixOf, Ne.symm h1, Ne.symm h2, Ne.symm h3, Ne.symm h4, Ne.symm h5, Ne.symm h6]
theorem sidx0 (w : World) : (Instr.index 193 (Value.agg #[Value.string ⟨#[45]⟩, Value.int IntKind.i64 2, Value.string ⟨#[61]⟩, Value.int IntKind.i64 3, Value.string ⟨#[63]⟩, Value.int IntKind.i64 4, Value.string ⟨#[43]⟩, Value.int IntKind.i64 5, Value.string ⟨#[35, 35]⟩, Value.int IntKind.i64 7, Value.string ⟨#[35]⟩, Value.int IntKind.i64 6, Value.string ⟨#[37, 37]⟩, Value.int IntKind.i64 9, Value.string ⟨#[37]⟩, Value.int IntKind.i64 8]) (Value.int IntKind.i64 0)).run Tryz.prog w = .ok (.agg #[.string ⟨#[45]⟩, .int .i64 2]) w := by kernel_rfl
theorem sidx1 (w : World) : (Instr.index 193 (Value.agg #[Value.string ⟨#[45]⟩, Value.int IntKind.i64 2, Value.string ⟨#[61]⟩, Value.int IntKind.i64 3, Value.string ⟨#[63]⟩, Value.int IntKind.i64 4, Value.string ⟨#[43]⟩, Value.int IntKind.i64 5, Value.string ⟨#[35, 35]⟩, Value.int IntKind.i64 7, Value.string ⟨#[35]⟩, Value.int IntKind.i64 6, Value.string ⟨#[37, 37]⟩, Value.int IntKind.i64 9, Value.string ⟨#[37]⟩, Value.int IntKind.i64 8]) (Value.int IntKind.i64 1)).run Tryz.prog w = .ok (.agg #[.string ⟨#[61]⟩, .int .i64 3]) w := by kernel_rfl
theorem sidx2 (w : World) : (Instr.index 193 (Value.agg #[Value.string ⟨#[45]⟩, Value.int IntKind.i64 2, Value.string ⟨#[61]⟩, Value.int IntKind.i64 3, Value.string ⟨#[63]⟩, Value.int IntKind.i64 4, Value.string ⟨#[43]⟩, Value.int IntKind.i64 5, Value.string ⟨#[35, 35]⟩, Value.int IntKind.i64 7, Value.string ⟨#[35]⟩, Value.int IntKind.i64 6, Value.string ⟨#[37, 37]⟩, Value.int IntKind.i64 9, Value.string ⟨#[37]⟩, Value.int IntKind.i64 8]) (Value.int IntKind.i64 2)).run Tryz.prog w = .ok (.agg #[.string ⟨#[63]⟩, .int .i64 4]) w := by kernel_rfl
theorem sidx3 (w : World) : (Instr.index 193 (Value.agg #[Value.string ⟨#[45]⟩, Value.int IntKind.i64 2, Value.string ⟨#[61]⟩, Value.int IntKind.i64 3, Value.string ⟨#[63]⟩, Value.int IntKind.i64 4, Value.string ⟨#[43]⟩, Value.int IntKind.i64 5, Value.string ⟨#[35, 35]⟩, Value.int IntKind.i64 7, Value.string ⟨#[35]⟩, Value.int IntKind.i64 6, Value.string ⟨#[37, 37]⟩, Value.int IntKind.i64 9, Value.string ⟨#[37]⟩, Value.int IntKind.i64 8]) (Value.int IntKind.i64 3)).run Tryz.prog w = .ok (.agg #[.string ⟨#[43]⟩, .int .i64 5]) w := by kernel_rfl
theorem sidx4 (w : World) : (Instr.index 193 (Value.agg #[Value.string ⟨#[45]⟩, Value.int IntKind.i64 2, Value.string ⟨#[61]⟩, Value.int IntKind.i64 3, Value.string ⟨#[63]⟩, Value.int IntKind.i64 4, Value.string ⟨#[43]⟩, Value.int IntKind.i64 5, Value.string ⟨#[35, 35]⟩, Value.int IntKind.i64 7, Value.string ⟨#[35]⟩, Value.int IntKind.i64 6, Value.string ⟨#[37, 37]⟩, Value.int IntKind.i64 9, Value.string ⟨#[37]⟩, Value.int IntKind.i64 8]) (Value.int IntKind.i64 4)).run Tryz.prog w = .ok (.agg #[.string ⟨#[35, 35]⟩, .int .i64 7]) w := by kernel_rfl
theorem sidx5 (w : World) : (Instr.index 193 (Value.agg #[Value.string ⟨#[45]⟩, Value.int IntKind.i64 2, Value.string ⟨#[61]⟩, Value.int IntKind.i64 3, Value.string ⟨#[63]⟩, Value.int IntKind.i64 4, Value.string ⟨#[43]⟩, Value.int IntKind.i64 5, Value.string ⟨#[35, 35]⟩, Value.int IntKind.i64 7, Value.string ⟨#[35]⟩, Value.int IntKind.i64 6, Value.string ⟨#[37, 37]⟩, Value.int IntKind.i64 9, Value.string ⟨#[37]⟩, Value.int IntKind.i64 8]) (Value.int IntKind.i64 5)).run Tryz.prog w = .ok (.agg #[.string ⟨#[35]⟩, .int .i64 6]) w := by kernel_rfl
theorem sidx6 (w : World) : (Instr.index 193 (Value.agg #[Value.string ⟨#[45]⟩, Value.int IntKind.i64 2, Value.string ⟨#[61]⟩, Value.int IntKind.i64 3, Value.string ⟨#[63]⟩, Value.int IntKind.i64 4, Value.string ⟨#[43]⟩, Value.int IntKind.i64 5, Value.string ⟨#[35, 35]⟩, Value.int IntKind.i64 7, Value.string ⟨#[35]⟩, Value.int IntKind.i64 6, Value.string ⟨#[37, 37]⟩, Value.int IntKind.i64 9, Value.string ⟨#[37]⟩, Value.int IntKind.i64 8]) (Value.int IntKind.i64 6)).run Tryz.prog w = .ok (.agg #[.string ⟨#[37, 37]⟩, .int .i64 9]) w := by kernel_rfl
theorem sidx7 (w : World) : (Instr.index 193 (Value.agg #[Value.string ⟨#[45]⟩, Value.int IntKind.i64 2, Value.string ⟨#[61]⟩, Value.int IntKind.i64 3, Value.string ⟨#[63]⟩, Value.int IntKind.i64 4, Value.string ⟨#[43]⟩, Value.int IntKind.i64 5, Value.string ⟨#[35, 35]⟩, Value.int IntKind.i64 7, Value.string ⟨#[35]⟩, Value.int IntKind.i64 6, Value.string ⟨#[37, 37]⟩, Value.int IntKind.i64 9, Value.string ⟨#[37]⟩, Value.int IntKind.i64 8]) (Value.int IntKind.i64 7)).run Tryz.prog w = .ok (.agg #[.string ⟨#[37]⟩, .int .i64 8]) w := by kernel_rfl
theorem colon_has (l : List UInt8) : Lib.hasPrefix l [58] = colonL l := by
 unfold colonL
 cases l with
 | nil => rfl
 | cons c r => rw [hasP_one]; simp [Bool.beq_eq_decide_eq]
theorem colon_trim (l : List UInt8) : Lib.trimPrefix l [58] = behindL l := by
 unfold behindL Lib.trimPrefix
 rw [colon_has]
 rfl
def PBk (w : World) (b : Nat) (k0 t0 q0 v0 : Value) (o : Int) (c : Bool) : Prop := Blk w b 89 #[k0, t0, q0, .int .i64 o, .bool c, v0]
theorem PBk.colon {w : World} {b : Nat} {k0 t0 q0 v0 : Value} {o : Int} {c : Bool} (h : PBk w b k0 t0 q0 v0 o c) (c' : Bool) : PBk (w.setCell ⟨b, 4, none⟩ (.bool c')) b k0 t0 q0 v0 o c' := by
 have := Blk.set h 4 (.bool c')
 simpa [PBk] using this
theorem PBk.opn {w : World} {b : Nat} {k0 t0 q0 v0 : Value} {o : Int} {c : Bool} (h : PBk w b k0 t0 q0 v0 o c) (o' : Int) : PBk (w.setCell ⟨b, 3, none⟩ (.int .i64 o')) b k0 t0 q0 v0 o' c := by
 have := Blk.set h 3 (.int .i64 o')
 simpa [PBk] using this
def OpEnd (w : World) (b : Nat) (k0 t0 q0 v0 : Value) (l : List UInt8) (en : Ending) (w' : World) : Prop :=
 match sgnL (colonL l) (behindL l) with
 | none => en = .returned (.tuple #[.string ⟨#[]⟩, .bool false]) ∧ GrownS w w' (fun k => k = b)
 | some (o, r) => en = .returned (.tuple #[.string (BA r), .bool true]) ∧ GrownS w w' (fun k => k = b) ∧ PBk w' b k0 t0 q0 v0 o (colonL l)
theorem opEnd_none {w w' : World} {b : Nat} {k0 t0 q0 v0 : Value} {l : List UInt8} {en : Ending} (h : none = sgnL (colonL l) (behindL l)) (h1 : en = .returned (.tuple #[.string ⟨#[]⟩, .bool false])) (h2 : GrownS w w' (fun k => k = b)) : OpEnd w b k0 t0 q0 v0 l en w' := by
 unfold OpEnd
 rw [← h]
 exact ⟨h1, h2⟩
theorem opEnd_some {w w' : World} {b : Nat} {k0 t0 q0 v0 : Value} {l r : List UInt8} {o : Int} {en : Ending} (h : some (o, r) = sgnL (colonL l) (behindL l)) (h1 : en = .returned (.tuple #[.string (BA r), .bool true])) (h2 : GrownS w w' (fun k => k = b)) (h3 : PBk w' b k0 t0 q0 v0 o (colonL l)) : OpEnd w b k0 t0 q0 v0 l en w' := by
 unfold OpEnd
 rw [← h]
 exact ⟨h1, h2, h3⟩
theorem operation_any (l : List UInt8) (b : Nat) (k0 t0 q0 v0 : Value) (o0 : Int) (c0 : Bool) (w : World) (he : WEnv w) (hb : PBk w b k0 t0 q0 v0 o0 c0) (hb3 : 7 ≤ b) :
 Calls Tryz.prog 162 #[.pointer (some ⟨b, 0, none⟩), .string (BA l)] w fun e w' => OpEnd w b k0 t0 q0 v0 l e w' := by
 have HC : Hid (∀ W, Calls Tryz.prog 160 #[.string (BA l), .string ⟨#[58]⟩] W fun e w' => e = .returned (.tuple #[.string (BA (behindL l)), .bool (colonL l)]) ∧ w' = W) := hide (fun W => by
  have := Tryz.strings_CutPrefix (BA l) ⟨#[58]⟩ W
  rw [show Lib.hasPrefix (BA l).data.toList (⟨#[58]⟩ : ByteArray).data.toList = colonL l from colon_has l, show Lib.trimPrefix (BA l).data.toList (⟨#[58]⟩ : ByteArray).data.toList = behindL l from colon_trim l] at this
  exact this)
 have b4 : w.cell? ⟨b, 4, none⟩ = some (.bool c0) := Blk.cell hb 4 rfl
 have z4 : w.frozen? ⟨b, 4, none⟩ = false := Blk.frozen hb 4
 have HB1 := hide (hb.colon (colonL l))
 have HG1 := hide (sbg w b 4 (.bool (colonL l)))
 have HE : Hid (∀ l e w', OpEnd w b k0 t0 q0 v0 l e w' → OpEnd w b k0 t0 q0 v0 l e w') := hide (fun _ _ _ h => h)
 obtain ⟨c, hc⟩ : ∃ c, c = colonL l := ⟨_, rfl⟩
 obtain ⟨t, ht⟩ : ∃ t, t = behindL l := ⟨_, rfl⟩
 rw [← hc] at HC HB1 HG1
 rw [← ht] at HC
 have hS0 : sgnFrom c t 0 = sgnL (colonL l) (behindL l) := by rw [hc, ht]; exact sgn_eq _ _
 have HC2 := hide hc
 have hcells : ∀ j, j < 16 → (w.setCell ⟨b, 4, none⟩ (.bool c)).cell? ⟨6, j, none⟩ = _ := fun j hj => (World.cell?_of_block (w := w) (a := ⟨6, j, none⟩) (Below.heap_setCell w ⟨b, 4, none⟩ (.bool c) 6 (by show _ ≠ b; omega))).trans (he.sg j hj)
 have a0 := hcells 0 (by decide)
 have a1 := hcells 1 (by decide)
 have a2 := hcells 2 (by decide)
 have a3 := hcells 3 (by decide)
 have a4 := hcells 4 (by decide)
 have a5 := hcells 5 (by decide)
 have a6 := hcells 6 (by decide)
 have a7 := hcells 7 (by decide)
 have a8 := hcells 8 (by decide)
 have a9 := hcells 9 (by decide)
 have a10 := hcells 10 (by decide)
 have a11 := hcells 11 (by decide)
 have a12 := hcells 12 (by decide)
 have a13 := hcells 13 (by decide)
 have a14 := hcells 14 (by decide)
 have a15 := hcells 15 (by decide)
 simp only [List.getElem?_cons_zero, List.getElem?_cons_succ] at a0 a1 a2 a3 a4 a5 a6 a7 a8 a9 a10 a11 a12 a13 a14 a15
 have HS0 := hide hS0
 clear hcells hS0 hb he hc ht
 go_enter Tryz.func162, Tryz.ntmps162
 go_wp2_with fail
 refine (uh HC _).mono ?_
 rintro en w1 ⟨rfl, hw1⟩
 have hw2 := hw1.symm
 subst hw2
 clear hw1
 go_wp2_with fail
 go_loopw [19] (fun x wr => ∃ k : Int, x = .int .i64 k ∧ 0 ≤ k ∧ k ≤ 8 ∧ Hid (sgnFrom c t k.toNat = sgnL (colonL l) (behindL l)) ∧ Hid (PBk wr b k0 t0 q0 v0 o0 c ∧ GrownS w wr (fun j => j = b))) (fun x _ => 8 - (intOf x).toNat)
 case atStart => exact ⟨0, rfl, by decide, by decide, HS0, hide ⟨uh HB1, uh HG1⟩⟩
 case round =>
  clear a0 a1 a2 a3 a4 a5 a6 a7 a8 a9 a10 a11 a12 a13 a14 a15 b4 z4 HS0 HC HB1 HG1
  obtain ⟨k, rfl, hk0, hk1, HK, HW⟩ := hrel
  by_cases hk8 : k = 8
  ·subst hk8
   have HR : Hid (none = sgnL (colonL l) (behindL l)) := HK
   clear HK
   go_wp2
   go_ret2
   exact opEnd_none (uh HR) rfl (uh HW).2
  have hcs : k = 0 ∨ k = 1 ∨ k = 2 ∨ k = 3 ∨ k = 4 ∨ k = 5 ∨ k = 6 ∨ k = 7 := by omega
  clear hk0 hk1 hk8
  have b4 : wr.cell? ⟨b, 4, none⟩ = some (.bool c) := Blk.cell (uh HW).1 4 rfl
  have b3 : wr.cell? ⟨b, 3, none⟩ = some (.int .i64 o0) := Blk.cell (uh HW).1 3 rfl
  have z3 : wr.frozen? ⟨b, 3, none⟩ = false := Blk.frozen (uh HW).1 3
  have hbl : b < wr.heap.size := Blk.lt (uh HW).1
  have HAL : Hid (∀ o, PBk (wr.alloc o) b k0 t0 q0 v0 o0 c ∧ GrownS w (wr.alloc o) (fun j => j = b)) := hide (fun o => ⟨Blk.alloc (uh HW).1 o, (uh HW).2.trans (GrownS.of (World.grownBy_alloc wr o none) (by simp))⟩)
  have HAL2 : Hid (∀ (o : Obj) (o' : Int), PBk ((wr.setCell ⟨b, 3, none⟩ (.int .i64 o')).alloc o) b k0 t0 q0 v0 o' c ∧ GrownS w ((wr.setCell ⟨b, 3, none⟩ (.int .i64 o')).alloc o) (fun j => j = b)) := hide (fun o o' => ⟨Blk.alloc ((uh HW).1.opn o') o, ((uh HW).2.trans (sbg _ b 3 _)).trans (GrownS.of (World.grownBy_alloc _ o none) (by simp))⟩)
  have HCP : Hid (∀ W (x : ByteArray), Calls Tryz.prog 160 #[.string (BA t), .string x] W fun e w' => e = .returned (.tuple #[.string ⟨(Lib.trimPrefix t x.data.toList).toArray⟩, .bool (Lib.hasPrefix t x.data.toList)]) ∧ w' = W) := hide (fun W x => Tryz.strings_CutPrefix (BA t) x W)
  rcases hcs with rfl | rfl | rfl | rfl | rfl | rfl | rfl | rfl
  all_goals
   have hidx0 := sidx0 wr
   have hidx1 := sidx1 wr
   have hidx2 := sidx2 wr
   have hidx3 := sidx3 wr
   have hidx4 := sidx4 wr
   have hidx5 := sidx5 wr
   have hidx6 := sidx6 wr
   have hidx7 := sidx7 wr
   go_wp2_with fail
   refine (uh HCP _ _).mono ?_
   rintro en w4 ⟨rfl, hw4⟩
   have hw5 := hw4.symm
   subst hw5
   clear hw4 hidx0 hidx1 hidx2 hidx3 hidx4 hidx5 hidx6 hidx7
   generalize hv : Lib.hasPrefix t _ = v
   generalize htt : Lib.trimPrefix t _ = tt
   have HTT := hide htt
   clear htt
   cases v
   ·have HN := hide ((sgnFrom_no (c := c) (t := t) rfl (by unfold sgnOk; rw [show Lib.hasPrefix t _ = false from hv, Bool.false_and])).symm.trans (uh HK))
    clear hv
    go_wp2
    go_roundw
    case rel => exact ⟨_, rfl, by decide, by decide, HN, hide (uh HAL _)⟩
    case measure => simp [intOf]
   ·cases c
    ·have HY := hide ((sgnFrom_yes (c := false) (t := t) rfl (by unfold sgnOk; rw [show Lib.hasPrefix t _ = true from hv] <;> rfl)).symm.trans (uh HK))
     have HT2 := hide ((show Lib.trimPrefix t _ = _ from by unfold Lib.trimPrefix; rw [show Lib.hasPrefix t _ = true from hv] <;> rfl).symm.trans (uh HTT))
     clear hv
     go_wp2
     go_ret2
     refine opEnd_some (uh HY) ?_ (uh HAL2 _ _).2 (by rw [← uh HC2]; exact (uh HAL2 _ _).1)
     rw [← uh HT2]
     rfl
    ·first
     | (have HY := hide ((sgnFrom_yes (c := true) (t := t) rfl (by unfold sgnOk; rw [show Lib.hasPrefix t _ = true from hv] <;> rfl)).symm.trans (uh HK))
        have HT2 := hide ((show Lib.trimPrefix t _ = _ from by unfold Lib.trimPrefix; rw [show Lib.hasPrefix t _ = true from hv] <;> rfl).symm.trans (uh HTT))
        clear hv
        go_wp2
        go_ret2
        refine opEnd_some (uh HY) ?_ (uh HAL2 _ _).2 (by rw [← uh HC2]; exact (uh HAL2 _ _).1)
        rw [← uh HT2]
        rfl)
     | (have HN := hide ((sgnFrom_no (c := true) (t := t) rfl (by unfold sgnOk; rw [show Lib.hasPrefix t _ = true from hv] <;> rfl)).symm.trans (uh HK))
        clear hv
        go_wp2
        go_roundw
        case rel => exact ⟨_, rfl, by decide, by decide, HN, hide (uh HAL _)⟩
        case measure => simp [intOf])
def Adds (w : World) (b : Nat) (X : Nat → Prop) (ps : List Prt) (w' : World) : Prop := ∃ X', LSt w' b X' ps ∧ GrownS w w' X ∧ ∀ k, X' k → X k ∨ w.heap.size ≤ k
theorem Adds.trans {w w1 w2 : World} {b : Nat} {X X1 : Nat → Prop} {qs : List Prt} (hg : GrownS w w1 X) (hx : ∀ k, X1 k → X k ∨ w.heap.size ≤ k) (h2 : Adds w1 b X1 qs w2) : Adds w b X qs w2 := by
 obtain ⟨X2, h3, h4, h5⟩ := h2
 refine ⟨X2, h3, hg.trans2 h4 (fun k hk e => ?_), fun k hk => ?_⟩
 ·rcases hx k e with e | e
  ·exact e
  ·omega
 ·rcases h5 k hk with e | e
  ·exact hx k e
  ·exact .inr (lee hg.size e)
theorem Adds.of_below {w w1 w2 : World} {b : Nat} {X : Nat → Prop} {qs : List Prt} (hb : Below w.heap.size w w1) (h2 : Adds w1 b X qs w2) : Adds w b X qs w2 := Adds.trans (gsb hb) (fun _ h => .inl h) h2
theorem Adds.below {w w1 w2 : World} {b : Nat} {X : Nat → Prop} {qs : List Prt} (h : Adds w b X qs w1) (hb : Below w1.heap.size w1 w2) : Adds w b X qs w2 := by
 obtain ⟨X1, h3, h4, h5⟩ := h
 exact ⟨X1, h3.below hb, h4.trans (gsb hb), h5⟩
theorem Adds.refl {w : World} {b : Nat} {X : Nat → Prop} {ps : List Prt} (h : LSt w b X ps) : Adds w b X ps w := ⟨X, h, gsb (Below.refl _ _), fun _ h => .inl h⟩
theorem LSt.lo {w : World} {b : Nat} {X : Nat → Prop} {ps : List Prt} (h : LSt w b X ps) : ∀ k, X k → b ≤ k := by
 obtain ⟨L, bs, pv, bv, h1, _⟩ := h
 exact h1.lo
theorem LSt.hi {w : World} {b : Nat} {X : Nat → Prop} {ps : List Prt} (h : LSt w b X ps) : ∀ k, X k → k < w.heap.size := by
 obtain ⟨L, bs, pv, bv, h1, _⟩ := h
 exact h1.hi
theorem LSt.lt {w : World} {b : Nat} {X : Nat → Prop} {ps : List Prt} (h : LSt w b X ps) : b < w.heap.size := by
 obtain ⟨L, bs, pv, bv, h1, _⟩ := h
 exact h1.blk.lt
def Room (ps : List Prt) (n : Nat) : Prop := ps.length + n ≤ 100000 ∧ tlen ps + n ≤ 1000000
theorem add_plain (w : World) (b : Nat) (X : Nat → Prop) (ps : List Prt) (k : Int) (t : ByteArray) (q : Bool) (o : Int) (c : Bool) (h : LSt w b X ps) (hr : Room ps t.size) :
 Calls Tryz.prog 138 #[.pointer (some ⟨b, 0, none⟩), .agg #[.int .i64 k, .string t, .bool q, .int .i64 o, .bool c, .slice none 0 0]] w fun e w' => e = .returned (.tuple #[]) ∧ Adds w b X (addP ps (.mk k t.data.toList q o c [])) w' :=
 ladd_any w b X (fun _ => False) ps _ (.mk k t.data.toList q o c []) h ⟨_, rfl, wat_nil _ _ _ _⟩ (fun _ h => h.elim) (by have := hr.1; omega) (by have := hr.2; show tlen ps + t.data.toList.length ≤ _; rw [data_len]; exact this)
theorem esc_idx (k : Nat) (c : UInt8) (hk : k = 2 ∨ k = 3 ∨ k = 5) : decide (0 ≤ Lib.indexByte (escL k) c) = escW k c := by
 have key : ((List.range 256).all fun n => (decide (0 ≤ Lib.indexByte (escL 2) (UInt8.ofNat n)) == escW 2 (UInt8.ofNat n)) && (decide (0 ≤ Lib.indexByte (escL 3) (UInt8.ofNat n)) == escW 3 (UInt8.ofNat n)) && (decide (0 ≤ Lib.indexByte (escL 5) (UInt8.ofNat n)) == escW 5 (UInt8.ofNat n))) = true := by kernel_rfl
 have h1 := List.all_eq_true.1 key c.toNat (List.mem_range.2 c.toNat_lt)
 simp only [UInt8.ofNat_toNat, Bool.and_eq_true, beq_iff_eq] at h1
 rcases hk with rfl | rfl | rfl
 ·exact h1.1.1
 ·exact h1.1.2
 ·exact h1.2
theorem pair_any (k : Nat) (u : List UInt8) (w : World) (b : Nat) (X : Nat → Prop) (ps : List Prt) (he : WEnv w) (hk : k < 6) (hu : u.length ≤ 1) (h : LSt w b X ps) (hr : Room ps 2) :
 Calls Tryz.prog 150 #[.int .i64 (k : Int), .string (BA u), (.func (Fn.func 138) #[.pointer (some ⟨b, 0, none⟩)] #[])] w fun e w' => e = .returned (.tuple #[]) ∧ Adds w b X ((pairL k u).foldl addP ps) w' := by
 have r0 := he.r0 k hk
 have r1 := he.r1 k hk
 have r2 := he.r2 k hk
 have r3 := he.r3 k hk
 have h2 := he.two
 have HB : Hid (∀ o, Below w.heap.size w (w.alloc o)) := hide (fun o => (Below.refl _ w).alloc (ler _) _)
 have HA : Hid (∀ w1 (t : ByteArray), t.size ≤ 2 → Below w.heap.size w w1 → Calls Tryz.prog 138 #[.pointer (some ⟨b, 0, none⟩), .agg #[.int .i64 1, .string t, .bool true, .int .i64 0, .bool false, .slice none 0 0]] w1 fun e w' => e = .returned (.tuple #[]) ∧ Adds w b X (addP ps (litP t.data.toList true)) w') := hide (fun w1 t ht hb =>
  (add_plain w1 b X ps 1 t true 0 false (h.below hb) ⟨by have := hr.1; omega, by have := hr.2; omega⟩).mono (fun e w' ⟨h1, h3⟩ => ⟨h1, h3.of_below hb⟩))
 match u, hu with
 | [], _ =>
   have hp : pairL k [] = [litP [92] true] := by unfold pairL; simp
   rw [hp]
   have t1 : ((BA []).toList == [10]) = false := by rw [BA_toList]; rfl
   have t2 : (BA []).toList.isEmpty = true := by rw [BA_toList]; rfl
   clear he h hp
   go_enter Tryz.func150, Tryz.ntmps150
   go_wp2_with fail
   refine (lit_any _ _ _).mono ?_
   rintro e w1 ⟨rfl, b1⟩
   have HB1 := hide ((uh HB _).trans (b1.mono (by simp)))
   clear b1
   go_wp2_with fail
   refine (uh HA _ _ (by first | decide | (show (1 : Nat) ≤ 2; decide) | (rw [ByteArray.size_append]; show (1 : Nat) + 1 ≤ 2; decide)) (uh HB1)).mono ?_
   rintro e w2 ⟨rfl, a2⟩
   go_wp2
   refine bodyPost_end (res0 rfl _ _) rfl ?_
   exact ⟨rfl, a2⟩
 | [c], _ =>
   have t2 : (BA [c]).toList.isEmpty = false := by rw [BA_toList]; rfl
   by_cases h10 : c = 10
   ·subst h10
    have hp : pairL k [10] = [] := by unfold pairL; simp
    rw [hp]
    have t1 : ((BA [10]).toList == [10]) = true := by rw [BA_toList]; rfl
    have HL := hide (Adds.refl h)
    clear he h hp
    go_enter Tryz.func150, Tryz.ntmps150
    go_wp2
    refine bodyPost_end (res0 rfl _ _) rfl ?_
    exact ⟨rfl, (uh HL).below (uh HB _)⟩
   have t1 : ((BA [c]).toList == [10]) = false := by rw [BA_toList]; simp [h10]
   rcases Bool.eq_false_or_eq_true (allW k) with hal | hal
   ·have h235 : k = 2 ∨ k = 3 ∨ k = 5 := by unfold allW at hal; simp at hal; omega
    have HCo : Hid (∀ W, Calls Tryz.prog 117 #[.string (BA (escL k)), .string (BA [c])] W fun e w' => e = .returned (.bool (escW k c)) ∧ w' = W) := hide (fun W => by rw [← esc_idx k c h235]; exact Tryz.strings_Contains_one (BA (escL k)) c W)
    rw [hal] at r2
    rcases Bool.eq_false_or_eq_true (escW k c) with hes | hes
    ·have hp : pairL k [c] = [litP [c] true] := by unfold pairL; simp [h10, hes]
     rw [hp]
     rw [hes] at HCo
     clear he h hp h10
     go_enter Tryz.func150, Tryz.ntmps150
     go_wp2_with fail
     refine (uh HCo _).mono ?_
     rintro e w1 ⟨rfl, rfl⟩
     go_wp2_with fail
     refine (lit_any _ _ _).mono ?_
     rintro e w1 ⟨rfl, b1⟩
     have HB1 := hide ((uh HB _).trans (b1.mono (by simp)))
     clear b1
     go_wp2_with fail
     refine (uh HA _ _ (by first | decide | (show (1 : Nat) ≤ 2; decide) | (rw [ByteArray.size_append]; show (1 : Nat) + 1 ≤ 2; decide)) (uh HB1)).mono ?_
     rintro e w2 ⟨rfl, a2⟩
     go_wp2
     refine bodyPost_end (res0 rfl _ _) rfl ?_
     exact ⟨rfl, a2⟩
    ·have hp : pairL k [c] = [litP [92, c] true] := by unfold pairL; simp [h10, hes, hal]
     rw [hp]
     rw [hes] at HCo
     clear he h hp h10
     go_enter Tryz.func150, Tryz.ntmps150
     go_wp2_with fail
     refine (uh HCo _).mono ?_
     rintro e w1 ⟨rfl, rfl⟩
     go_wp2_with fail
     refine (lit_any _ _ _).mono ?_
     rintro e w1 ⟨rfl, b1⟩
     have HB1 := hide ((uh HB _).trans (b1.mono (by simp)))
     clear b1
     go_wp2_with fail
     refine (uh HA _ _ (by first | decide | (show (1 : Nat) ≤ 2; decide) | (rw [ByteArray.size_append]; show (1 : Nat) + 1 ≤ 2; decide)) (uh HB1)).mono ?_
     rintro e w2 ⟨rfl, a2⟩
     go_wp2
     refine bodyPost_end (res0 rfl _ _) rfl ?_
     rw [show (({ data := #[92] } : ByteArray) ++ BA [c]).data.toList = [92, c] by simp [ByteArray.data_append]] at a2
     exact ⟨rfl, a2⟩
   ·have hp : pairL k [c] = [litP [c] true] := by unfold pairL; simp [h10, hal]
    rw [hp]
    rw [hal] at r2
    clear he h hp h10
    go_enter Tryz.func150, Tryz.ntmps150
    go_wp2_with fail
    refine (lit_any _ _ _).mono ?_
    rintro e w1 ⟨rfl, b1⟩
    have HB1 := hide ((uh HB _).trans (b1.mono (by simp)))
    clear b1
    go_wp2_with fail
    refine (uh HA _ _ (by first | decide | (show (1 : Nat) ≤ 2; decide) | (rw [ByteArray.size_append]; show (1 : Nat) + 1 ≤ 2; decide)) (uh HB1)).mono ?_
    rintro e w2 ⟨rfl, a2⟩
    go_wp2
    refine bodyPost_end (res0 rfl _ _) rfl ?_
    exact ⟨rfl, a2⟩
theorem nmd_front {l : List UInt8} (h : 0 < frontN l) : nmdN l = frontN l := by unfold nmdN; rw [if_pos h]
theorem nmd_cons {c : UInt8} {r : List UInt8} (h : frontN (c :: r) = 0) : nmdN (c :: r) = if digB (c.toNat : Int) || speB c then 1 else 0 := by unfold nmdN; rw [if_neg (by omega)]
theorem short_front (k : Nat) (r : List UInt8) (w : World) (b : Nat) (X : Nat → Prop) (ps : List Prt) (he : WEnv w) (hk : k < 6) (hrl : r.length ≤ 5000) (h : LSt w b X ps) (hr : Room ps (r.length + 1)) (hf : 0 < frontN r) :
 Calls Tryz.prog 153 #[.int .i64 (k : Int), .string (BA r), (.func (Fn.func 138) #[.pointer (some ⟨b, 0, none⟩)] #[])] w fun e w' => e = .returned (.int .i64 (nmdN r : Int)) ∧ Adds w b X (addP ps (if nmdN r = 0 then litP [36] true else .mk 2 (r.take (nmdN r)) (allW k) 0 false [])) w' := by
 have r2 := he.r2 k hk
 have h2 := he.two
 have HF := hide (fun W => front_any (BA r) W (by simp; omega))
 simp only [BA_list] at HF
 have HA : Hid (∀ w1 k (t : ByteArray) q, t.size ≤ r.length + 1 → Below w.heap.size w w1 → Calls Tryz.prog 138 #[.pointer (some ⟨b, 0, none⟩), .agg #[.int .i64 k, .string t, .bool q, .int .i64 0, .bool false, .slice none 0 0]] w1 fun e w' => e = .returned (.tuple #[]) ∧ Adds w b X (addP ps (.mk k t.data.toList q 0 false [])) w') := hide (fun w1 k t q ht hb =>
  (add_plain w1 b X ps k t q 0 false (h.below hb) ⟨by have := hr.1; omega, by have := hr.2; omega⟩).mono (fun e w' ⟨h1, h3⟩ => ⟨h1, h3.of_below hb⟩))
 clear he h hr
 have hn := nmd_front hf
 have hle := front_le r
 rw [← hn] at HF hf hle
 obtain ⟨n, hnn⟩ : ∃ n, n = nmdN r := ⟨_, rfl⟩
 rw [← hnn] at HF hf hle ⊢
 have hn0 : ((n : Int) == 0) = false := by rw [beq_eq_false_iff_ne]; omega
 have hn1 : (n : Int) ≤ (r.length : Int) := by omega
 rw [if_neg (by omega)]
 have HX : Hid ((BA r).extract 0 n = BA (r.take n)) := hide (by have := extract_take (BA r) 0 n; simpa using this)
 clear hn hnn
 go_enter Tryz.func153, Tryz.ntmps153
 go_wp2_with fail
 refine (uh HF _).mono ?_
 rintro e w1 ⟨rfl, hw1⟩
 have hw2 := hw1.symm
 subst hw2
 clear hw1
 go_wp2_with fail
 go_region_with (go_at_call 138; refine (uh HA _ _ _ _ (by rw [uh HX]; simp; omega) (bdr _ 1)).mono ?_; rintro e w2 ⟨rfl, a2⟩)
 go_wp2
 go_ret
 rw [uh HX] at a2
 exact ⟨rfl, a2⟩
theorem short_nil (k : Nat) (w : World) (b : Nat) (X : Nat → Prop) (ps : List Prt) (he : WEnv w) (hk : k < 6) (h : LSt w b X ps) (hr : Room ps (([] : List UInt8).length + 1)) :
 Calls Tryz.prog 153 #[.int .i64 (k : Int), .string (BA []), (.func (Fn.func 138) #[.pointer (some ⟨b, 0, none⟩)] #[])] w fun e w' => e = .returned (.int .i64 (nmdN [] : Int)) ∧ Adds w b X (addP ps (if nmdN [] = 0 then litP [36] true else .mk 2 (([] : List UInt8).take (nmdN [])) (allW k) 0 false [])) w' := by
 have r2 := he.r2 k hk
 have h2 := he.two
 have HF := hide (fun W => front_any (BA []) W (by simp))
 simp only [BA_list] at HF
 have HA : Hid (∀ w1 k (t : ByteArray) q, t.size ≤ ([] : List UInt8).length + 1 → Below w.heap.size w w1 → Calls Tryz.prog 138 #[.pointer (some ⟨b, 0, none⟩), .agg #[.int .i64 k, .string t, .bool q, .int .i64 0, .bool false, .slice none 0 0]] w1 fun e w' => e = .returned (.tuple #[]) ∧ Adds w b X (addP ps (.mk k t.data.toList q 0 false [])) w') := hide (fun w1 k t q ht hb =>
  (add_plain w1 b X ps k t q 0 false (h.below hb) ⟨by have := hr.1; omega, by have := hr.2; omega⟩).mono (fun e w' ⟨h1, h3⟩ => ⟨h1, h3.of_below hb⟩))
 clear he h hr
 rw [show frontN [] = 0 from rfl] at HF
 have t2 : (BA []).toList.isEmpty = true := by rw [BA_toList]; rfl
 rw [show nmdN [] = 0 from rfl, if_pos rfl]
 go_enter Tryz.func153, Tryz.ntmps153
 go_wp2_with fail
 refine (uh HF _).mono ?_
 rintro e w1 ⟨rfl, hw1⟩
 have hw2 := hw1.symm
 subst hw2
 clear hw1
 go_wp2_with fail
 refine (lit_any _ _ _).mono ?_
 rintro e w2 ⟨rfl, b2⟩
 have HB2 := hide b2
 clear b2
 go_wp2_with fail
 refine (uh HA _ _ _ _ (by show 1 ≤ _; omega) (uh HB2)).mono ?_
 rintro e w3 ⟨rfl, a3⟩
 go_wp2
 go_ret
 exact ⟨rfl, a3⟩
theorem short_cons (k : Nat) (c : UInt8) (r' : List UInt8) (w : World) (b : Nat) (X : Nat → Prop) (ps : List Prt) (he : WEnv w) (hk : k < 6) (hrl : (c :: r').length ≤ 5000) (h : LSt w b X ps) (hr : Room ps ((c :: r').length + 1)) (hf0 : frontN (c :: r') = 0) :
 Calls Tryz.prog 153 #[.int .i64 (k : Int), .string (BA (c :: r')), (.func (Fn.func 138) #[.pointer (some ⟨b, 0, none⟩)] #[])] w fun e w' => e = .returned (.int .i64 (nmdN (c :: r') : Int)) ∧ Adds w b X (addP ps (if nmdN (c :: r') = 0 then litP [36] true else .mk 2 ((c :: r').take (nmdN (c :: r'))) (allW k) 0 false [])) w' := by
 have r2 := he.r2 k hk
 have h2 := he.two
 have HF := hide (fun W => front_any (BA (c :: r')) W (by simp at hrl ⊢; omega))
 simp only [BA_list] at HF
 have HA : Hid (∀ w1 k (t : ByteArray) q, t.size ≤ (c :: r').length + 1 → Below w.heap.size w w1 → Calls Tryz.prog 138 #[.pointer (some ⟨b, 0, none⟩), .agg #[.int .i64 k, .string t, .bool q, .int .i64 0, .bool false, .slice none 0 0]] w1 fun e w' => e = .returned (.tuple #[]) ∧ Adds w b X (addP ps (.mk k t.data.toList q 0 false [])) w') := hide (fun w1 k t q ht hb =>
  (add_plain w1 b X ps k t q 0 false (h.below hb) ⟨by have := hr.1; omega, by have := hr.2; omega⟩).mono (fun e w' ⟨h1, h3⟩ => ⟨h1, h3.of_below hb⟩))
 clear he h hr
 rw [hf0] at HF
 have t2 : (BA (c :: r')).toList.isEmpty = false := by rw [BA_toList]; rfl
 have hc0 : (BA (c :: r'))[0]'(by simp) = c := rfl
 have hsz : (0 : Int) < ((r'.length : Int) + 1) := by omega
 have hsz1 : (1 : Int) ≤ ((r'.length : Int) + 1) := by omega
 have hk6 : (k : Int) < 6 := by omega
 rw [nmd_cons hf0]
 clear hf0
 have HX : Hid ((BA (c :: r')).extract 0 1 = BA [c]) := hide (by have := extract_take (BA (c :: r')) 0 1; simpa using this)
 have HS := hide (fun W => special_any c W)
 rcases Bool.eq_false_or_eq_true (digB (c.toNat : Int)) with hd | hd
 ·have HD := hide (fun W => digit_any (c.toNat : Int) W)
  rw [hd] at HD
  rw [hd, Bool.true_or, if_pos rfl, if_neg (by decide)]
  go_enter Tryz.func153, Tryz.ntmps153
  go_wp2_with fail
  refine (uh HF _).mono ?_
  rintro e w1 ⟨rfl, hw1⟩
  have hw2 := hw1.symm
  subst hw2
  clear hw1
  go_wp2_with fail
  refine (uh HD _).mono ?_
  rintro e w1 ⟨rfl, hw1⟩
  have hw2 := hw1.symm
  subst hw2
  clear hw1
  go_wp2_with fail
  go_region_with (go_at_call 138; refine (uh HA _ _ _ _ (by rw [uh HX]; simp) (bdr _ 1)).mono ?_; rintro e w2 ⟨rfl, a2⟩)
  all_goals
   go_wp2
   go_ret
   rw [uh HX] at a2
   exact ⟨rfl, a2⟩
 ·have HD := hide (fun W => digit_any (c.toNat : Int) W)
  rw [hd] at HD
  rw [hd, Bool.false_or]
  rcases Bool.eq_false_or_eq_true (speB c) with hs | hs
  ·rw [hs] at HS
   rw [hs, if_pos rfl, if_neg (by decide)]
   go_enter Tryz.func153, Tryz.ntmps153
   go_wp2_with fail
   refine (uh HF _).mono ?_
   rintro e w1 ⟨rfl, hw1⟩
   have hw2 := hw1.symm
   subst hw2
   clear hw1
   go_wp2_with fail
   refine (uh HD _).mono ?_
   rintro e w1 ⟨rfl, hw1⟩
   have hw2 := hw1.symm
   subst hw2
   clear hw1
   go_wp2_with fail
   refine (uh HS _).mono ?_
   rintro e w1 ⟨rfl, hw1⟩
   have hw2 := hw1.symm
   subst hw2
   clear hw1
   go_wp2_with fail
   go_region_with (go_at_call 138; refine (uh HA _ _ _ _ (by rw [uh HX]; simp) (bdr _ 1)).mono ?_; rintro e w2 ⟨rfl, a2⟩)
   all_goals
    go_wp2
    go_ret
    rw [uh HX] at a2
    exact ⟨rfl, a2⟩
  ·rw [hs] at HS
   rw [hs, if_neg (by decide), if_pos rfl]
   go_enter Tryz.func153, Tryz.ntmps153
   go_wp2_with fail
   refine (uh HF _).mono ?_
   rintro e w1 ⟨rfl, hw1⟩
   have hw2 := hw1.symm
   subst hw2
   clear hw1
   go_wp2_with fail
   refine (uh HD _).mono ?_
   rintro e w1 ⟨rfl, hw1⟩
   have hw2 := hw1.symm
   subst hw2
   clear hw1
   go_wp2_with fail
   refine (uh HS _).mono ?_
   rintro e w1 ⟨rfl, hw1⟩
   have hw2 := hw1.symm
   subst hw2
   clear hw1
   go_wp2_with fail
   refine (lit_any _ _ _).mono ?_
   rintro e w2 ⟨rfl, b2⟩
   have HB2 := hide b2
   clear b2
   go_wp2_with fail
   refine (uh HA _ _ _ _ (by show 1 ≤ _; omega) (uh HB2)).mono ?_
   rintro e w3 ⟨rfl, a3⟩
   go_wp2
   go_ret
   exact ⟨rfl, a3⟩
theorem short_any (k : Nat) (r : List UInt8) (w : World) (b : Nat) (X : Nat → Prop) (ps : List Prt) (he : WEnv w) (hk : k < 6) (hrl : r.length ≤ 5000) (h : LSt w b X ps) (hr : Room ps (r.length + 1)) :
 Calls Tryz.prog 153 #[.int .i64 (k : Int), .string (BA r), (.func (Fn.func 138) #[.pointer (some ⟨b, 0, none⟩)] #[])] w fun e w' => e = .returned (.int .i64 (nmdN r : Int)) ∧ Adds w b X (addP ps (if nmdN r = 0 then litP [36] true else .mk 2 (r.take (nmdN r)) (allW k) 0 false [])) w' := by
 by_cases hf : 0 < frontN r
 ·exact short_front k r w b X ps he hk hrl h hr hf
 ·cases r with
  | nil => exact short_nil k w b X ps he hk h hr
  | cons c r' => exact short_cons k c r' w b X ps he hk hrl h hr (by omega)
end Go.Proofs.YtojjfdobilkknaaGreatDoor

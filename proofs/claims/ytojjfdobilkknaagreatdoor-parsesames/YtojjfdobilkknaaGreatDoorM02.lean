/- The reader's state, and its small methods.; Classes of bytes, of the program and of the document.; The longest operator at the front of a text; a text of Digits alone. -/
import Derived.Test.YtojjfdobilkknaaGreatDoorM01
set_option maxRecDepth 20000
set_option maxHeartbeats 8000000
namespace Go.Proofs.YtojjfdobilkknaaGreatDoor
open Go.RowKit
structure Rdr (w : World) (b : Nat) (t : TypeId) (tl : List Value) (s : ByteArray) (p d : Nat) (f bl : Int) : Prop where
 blk : Blk w b t (.int .i64 (d : Int) :: .string s :: .int .i64 (p : Int) :: .int .i64 f :: .int .i64 bl :: tl).toArray
 le : p ≤ s.size
 len : s.size ≤ 100000
 dle : d ≤ 40
theorem Rdr.kept {w' : World} {w : World} {b : Nat} {t : TypeId} {tl : List Value} {s : ByteArray} {p d : Nat} {f bl : Int} (h : Rdr w b t tl s p d f bl) (hg : w.grownBy w' none) : Rdr w' b t tl s p d f bl := ⟨h.blk.kept hg (by simp), h.le, h.len, h.dle⟩
theorem Rdr.c0 {w : World} {b : Nat} {t : TypeId} {tl : List Value} {s : ByteArray} {p d : Nat} {f bl : Int} (h : Rdr w b t tl s p d f bl) : w.cell? ⟨b, 0, none⟩ = some (.int .i64 (d : Int)) := h.blk.cell 0 (by simp)
theorem Rdr.c1 {w : World} {b : Nat} {t : TypeId} {tl : List Value} {s : ByteArray} {p d : Nat} {f bl : Int} (h : Rdr w b t tl s p d f bl) : w.cell? ⟨b, 1, none⟩ = some (.string s) := h.blk.cell 1 (by simp)
theorem Rdr.c2 {w : World} {b : Nat} {t : TypeId} {tl : List Value} {s : ByteArray} {p d : Nat} {f bl : Int} (h : Rdr w b t tl s p d f bl) : w.cell? ⟨b, 2, none⟩ = some (.int .i64 (p : Int)) := h.blk.cell 2 (by simp)
theorem Rdr.c3 {w : World} {b : Nat} {t : TypeId} {tl : List Value} {s : ByteArray} {p d : Nat} {f bl : Int} (h : Rdr w b t tl s p d f bl) : w.cell? ⟨b, 3, none⟩ = some (.int .i64 f) := h.blk.cell 3 (by simp)
theorem Rdr.c4 {w : World} {b : Nat} {t : TypeId} {tl : List Value} {s : ByteArray} {p d : Nat} {f bl : Int} (h : Rdr w b t tl s p d f bl) : w.cell? ⟨b, 4, none⟩ = some (.int .i64 bl) := h.blk.cell 4 (by simp)
theorem Rdr.to {w : World} {b : Nat} {t : TypeId} {tl : List Value} {s : ByteArray} {p d : Nat} {f bl : Int} (h : Rdr w b t tl s p d f bl) (q : Nat) (hq : q ≤ s.size) : Rdr (w.setCell ⟨b, 2, none⟩ (.int .i64 (q : Int))) b t tl s q d f bl := by
 refine ⟨?_, hq, h.len, h.dle⟩
 have := h.blk.set 2 (.int .i64 (q : Int))
 rwa [List.setIfInBounds_toArray] at this
theorem Rdr.deep {w : World} {b : Nat} {t : TypeId} {tl : List Value} {s : ByteArray} {p d : Nat} {f bl : Int} (h : Rdr w b t tl s p d f bl) (d' : Nat) (hd : d' ≤ 40) : Rdr (w.setCell ⟨b, 0, none⟩ (.int .i64 (d' : Int))) b t tl s p d' f bl := by
 refine ⟨?_, h.le, h.len, hd⟩
 have := h.blk.set 0 (.int .i64 (d' : Int))
 rwa [List.setIfInBounds_toArray] at this
theorem Rdr.bad {w : World} {b : Nat} {t : TypeId} {tl : List Value} {s : ByteArray} {p d : Nat} {f bl : Int} (h : Rdr w b t tl s p d f bl) (e x : Int) : Rdr ((w.setCell ⟨b, 3, none⟩ (.int .i64 e)).setCell ⟨b, 4, none⟩ (.int .i64 x)) b t tl s p d e x := by
 refine ⟨?_, h.le, h.len, h.dle⟩
 have := (h.blk.set 3 (.int .i64 e)).set 4 (.int .i64 x)
 rwa [List.setIfInBounds_toArray, List.setIfInBounds_toArray] at this
def atOf (b : Nat) (w : World) : Nat := (intOf ((w.cell? ⟨b, 2, none⟩).getD (.int .i64 0))).toNat
theorem Rdr.at {w : World} {b : Nat} {t : TypeId} {tl : List Value} {s : ByteArray} {p d : Nat} {f bl : Int} (h : Rdr w b t tl s p d f bl) : atOf b w = p := by
 unfold atOf
 rw [h.c2]
 simp [intOf]
def fltOf (b : Nat) (w : World) : Int := intOf ((w.cell? ⟨b, 3, none⟩).getD (.int .i64 0))
theorem Rdr.flt {w : World} {b : Nat} {t : TypeId} {tl : List Value} {s : ByteArray} {p d : Nat} {f bl : Int} (h : Rdr w b t tl s p d f bl) : fltOf b w = f := by
 unfold fltOf
 rw [h.c3]
 simp [intOf]
def msr (s : ByteArray) (b : Nat) (w : World) : Nat := if fltOf b w = 0 then s.size - atOf b w + 1 else 0
theorem Rdr.msr0 {w : World} {b : Nat} {t : TypeId} {tl : List Value} {s : ByteArray} {p d : Nat} {bl : Int} (h : Rdr w b t tl s p d 0 bl) : msr s b w = s.size - p + 1 := by
 unfold msr
 rw [h.flt, if_pos rfl, h.at]
theorem Rdr.msr1 {w : World} {b : Nat} {t : TypeId} {tl : List Value} {s : ByteArray} {p d : Nat} {f bl : Int} (h : Rdr w b t tl s p d f bl) (hf : f ≠ 0) : msr s b w = 0 := by
 unfold msr
 rw [h.flt, if_neg hf]
def moreB (s : ByteArray) (p : Nat) (f : Int) : Bool := (f == 0) && decide (p < s.size)
theorem more_any {w : World} {b : Nat} {t : TypeId} {tl : List Value} {s : ByteArray} {p d : Nat} {f bl : Int} (h : Rdr w b t tl s p d f bl) : Calls Tryz.prog 28 #[.pointer (some ⟨b, 0, none⟩)] w fun e w' => e = .returned (.bool (moreB s p f)) ∧ ∃ k, w' = w.drewN k := by
 have c1 := h.c1
 have c2 := h.c2
 have c3 := h.c3
 have hlen := h.len
 clear h
 by_cases hf : f = 0
 ·subst hf
  by_cases hp : p < s.size
  ·have hp' : (p : Int) < (s.size : Int) := by omega
   have hm : moreB s p 0 = true := by unfold moreB; rw [decide_eq_true hp]; rfl
   rw [hm]
   clear hm hp
   go_enter Tryz.func28, Tryz.ntmps28
   go_wp2_with fail
   go_quiet (fail)
   go_wp2
   go_ret
   exact ⟨rfl, _, rfl⟩
  ·have hp' : ¬ (p : Int) < (s.size : Int) := by omega
   have hm : moreB s p 0 = false := by unfold moreB; rw [decide_eq_false hp]; rfl
   rw [hm]
   clear hm
   have HP := hide hp
   clear hp
   go_enter Tryz.func28, Tryz.ntmps28
   go_wp2_with fail
   go_quiet (fail)
   go_wp2
   go_ret
   exact ⟨ret_bool (decide_eq_false (uh HP)), _, rfl⟩
 ·have hf' : (f == 0) = false := by simpa using hf
  have hm : moreB s p f = false := by unfold moreB; rw [hf']; rfl
  rw [hm]
  clear hm hf'
  go_enter Tryz.func28, Tryz.ntmps28
  go_wp2_with fail
  go_quiet (fail)
  go_wp2
  go_ret
  exact ⟨rfl, _, rfl⟩
theorem sees_any (q : ByteArray) {w : World} {b : Nat} {t : TypeId} {tl : List Value} {s : ByteArray} {p d : Nat} {f bl : Int} (h : Rdr w b t tl s p d f bl) : Calls Tryz.prog 48 #[.pointer (some ⟨b, 0, none⟩), .string q] w fun e w' => e = .returned (.bool (Lib.hasPrefix (s.data.toList.drop p) q.data.toList)) ∧ ∃ k, w' = w.drewN k := by
 have c1 := h.c1
 have c2 := h.c2
 have hle := h.le
 have hlen := h.len
 clear h
 have HP : Hid (∀ w, Calls Tryz.prog 68 #[.string (s.extract p s.size), .string q] w fun e w' => e = .returned (.bool (Lib.hasPrefix (s.data.toList.drop p) q.data.toList)) ∧ w' = w) := hide (fun w => by
  have := Tryz.strings_HasPrefix (s.extract p s.size) q w
  rw [extract_end, BA_list] at this
  rw [extract_end]
  exact this)
 go_enter Tryz.func48, Tryz.ntmps48
 go_wp2_with fail
 go_quiet ((go_at_call 68; exact Calls.quiet_of_same (uh HP _)))
 go_wp2
 go_ret
 exact ⟨rfl, _, rfl⟩
theorem fail_any (e x : Int) {w : World} {b : Nat} {t : TypeId} {tl : List Value} {s : ByteArray} {p d : Nat} {bl : Int} (h : Rdr w b t tl s p d 0 bl) : Calls Tryz.prog 30 #[.pointer (some ⟨b, 0, none⟩), .int .i64 e, .int .i64 x] w fun en w' => en = .returned (.tuple #[]) ∧ Rdr w' b t tl s p d e x ∧ w.grownBy w' (some b) := by
 have c3 := h.c3
 have c4 := (show Rdr (w.setCell ⟨b, 3, none⟩ (.int .i64 e)) b t tl s p d e bl from ⟨by have := h.blk.set 3 (.int .i64 e); rwa [List.setIfInBounds_toArray] at this, h.le, h.len, h.dle⟩).c4
 have z3 := h.blk.frozen 3
 have z4 := (h.blk.set 3 (.int .i64 e)).frozen 4
 have H := hide h
 clear h
 go_enter Tryz.func30, Tryz.ntmps30
 go_wp2
 refine bodyPost_end (res0 rfl _ _) rfl ?_
 exact ⟨rfl, (uh H).bad e x, (gsc w ⟨b, 3, none⟩ _).trans (gsc _ ⟨b, 4, none⟩ _)⟩
theorem fail_not (e x : Int) {w : World} {b : Nat} {t : TypeId} {tl : List Value} {s : ByteArray} {p d : Nat} {f bl : Int} (h : Rdr w b t tl s p d f bl) (hf : f ≠ 0) : Calls Tryz.prog 30 #[.pointer (some ⟨b, 0, none⟩), .int .i64 e, .int .i64 x] w fun en w' => en = .returned (.tuple #[]) ∧ w' = w := by
 have c3 := h.c3
 have hf' : (f == 0) = false := by simpa using hf
 clear h hf
 go_enter Tryz.func30, Tryz.ntmps30
 go_wp2
 refine bodyPost_end (res0 rfl _ _) rfl ?_
 exact ⟨rfl, rfl⟩
theorem enter_yes {w : World} {b : Nat} {t : TypeId} {tl : List Value} {s : ByteArray} {p d : Nat} {f bl : Int} (d1 : Nat) (hd1 : d1 = d + 1) (h : Rdr w b t tl s p d f bl) (hd : d < 40) : Calls Tryz.prog 113 #[.pointer (some ⟨b, 0, none⟩)] w fun e w' => e = .returned (.bool true) ∧ w' = w.setCell ⟨b, 0, none⟩ (.int .i64 (d1 : Int)) := by
 have c0 := h.c0
 have z0 := h.blk.frozen 0
 have hd' : ((d : Int) == 40) = false := by rw [beq_eq_false_iff_ne]; omega
 have hw : IntKind.i64.wrap ((d : Int) + 1) = (d1 : Int) := by rw [IntKind.wrap_i64]; omega
 clear h hd hd1
 go_enter Tryz.func113, Tryz.ntmps113
 go_wp2
 go_ret
 exact ⟨rfl, rfl⟩
theorem enter_no {w : World} {b : Nat} {t : TypeId} {tl : List Value} {s : ByteArray} {p : Nat} {f bl : Int} (h : Rdr w b t tl s p 40 f bl) : Calls Tryz.prog 113 #[.pointer (some ⟨b, 0, none⟩)] w fun e w' => e = .returned (.bool false) ∧ w' = w := by
 have c0 := h.c0
 clear h
 go_enter Tryz.func113, Tryz.ntmps113
 go_wp2
 go_ret
 exact ⟨rfl, rfl⟩
theorem leave_any {w : World} {b : Nat} {t : TypeId} {tl : List Value} {s : ByteArray} {p d : Nat} {f bl : Int} (d1 : Nat) (hd1 : d1 = d + 1) (h : Rdr w b t tl s p d1 f bl) : Calls Tryz.prog 114 #[.pointer (some ⟨b, 0, none⟩)] w fun e w' => e = .returned (.tuple #[]) ∧ w' = w.setCell ⟨b, 0, none⟩ (.int .i64 (d : Int)) := by
 have c0 := h.c0
 have z0 := h.blk.frozen 0
 have hd := h.dle
 have hw : IntKind.i64.wrap ((d1 : Int) - 1) = (d : Int) := by rw [IntKind.wrap_i64]; omega
 clear h hd hd1
 go_enter Tryz.func114, Tryz.ntmps114
 go_wp2
 refine bodyPost_end (res0 rfl _ _) rfl ?_
 exact ⟨rfl, rfl⟩
theorem single_any (wh : Nat) (hw : wh ≤ 4) (w : World) : Calls Tryz.prog 91 #[.int .i64 (wh : Int)] w fun e w' => e = .returned (.bool (!quot wh)) ∧ w' = w := by
 have hc : wh = 0 ∨ wh = 1 ∨ wh = 2 ∨ wh = 3 ∨ wh = 4 := by omega
 rcases hc with rfl | rfl | rfl | rfl | rfl
 all_goals
  go_enter Tryz.func91, Tryz.ntmps91
  go_wp2
  go_ret
  exact ⟨rfl, rfl⟩
theorem brace_any (wh : Nat) (hw : wh ≤ 4) (w : World) : Calls Tryz.prog 93 #[.int .i64 (wh : Int)] w fun e w' => e = .returned (.int .i64 ((if quot wh then 3 else 2 : Nat) : Int)) ∧ w' = w := by
 have hc : wh = 0 ∨ wh = 1 ∨ wh = 2 ∨ wh = 3 ∨ wh = 4 := by omega
 rcases hc with rfl | rfl | rfl | rfl | rfl
 all_goals
  go_enter Tryz.func93, Tryz.ntmps93
  go_wp2
  go_ret
  exact ⟨rfl, rfl⟩
theorem Rdr.drewN {w : World} {b : Nat} {t : TypeId} {tl : List Value} {s : ByteArray} {p d : Nat} {f bl : Int} (h : Rdr w b t tl s p d f bl) (k : Nat) : Rdr (w.drewN k) b t tl s p d f bl := h.kept (gdn w k)
theorem hasP_one (c x : UInt8) (r : List UInt8) : Lib.hasPrefix (c :: r) [x] = (c == x) := by
 show (x == c && ([] : List UInt8).isPrefixOf r) = _
 by_cases h : c = x
 ·subst h; simp
 ·rw [show (c == x) = false from beq_false_of_ne h, show (x == c) = false from beq_false_of_ne (fun e => h e.symm)]; rfl
theorem hasP_two (c x y : UInt8) (r : List UInt8) : Lib.hasPrefix (c :: r) [x, y] = ((c == x) && (r.head? == some y)) := by
 show (x == c && [y].isPrefixOf r) = _
 have e : (x == c) = (c == x) := by
  by_cases h : c = x
  ·subst h; rfl
  ·rw [show (c == x) = false from beq_false_of_ne h, show (x == c) = false from beq_false_of_ne (fun e => h e.symm)]
 rw [e]
 cases r with
 | nil => simp
 | cons z r =>
   show (c == x && (y == z && true)) = (c == x && (some z == some y))
   by_cases h : z = y
   ·subst h; simp
   ·rw [show (y == z) = false from beq_false_of_ne (fun e => h e.symm), show (some z == some y) = false from beq_false_of_ne (fun e => h (by simpa using e))]; rfl
theorem index_dw (r : List UInt8) (c : UInt8) : (Lib.indexByte r c = -1 ∧ r.dropWhile (fun x => x != c) = []) ∨ (∃ k : Nat, Lib.indexByte r c = (k : Int) ∧ k < r.length ∧ r.dropWhile (fun x => x != c) = c :: r.drop (k + 1)) := by
 induction r with
 | nil => exact .inl ⟨rfl, rfl⟩
 | cons b l ih =>
   unfold Lib.indexByte
   by_cases hb : b = c
   ·subst hb
    right
    refine ⟨0, by simp, by simp, ?_⟩
    simp
   ·have hb' : (b == c) = false := beq_false_of_ne hb
    have hd : (b :: l).dropWhile (fun x => x != c) = l.dropWhile (fun x => x != c) := by
     rw [List.dropWhile_cons, if_pos (by simpa using hb)]
    rw [hb', hd]
    rcases ih with ⟨h1, h2⟩ | ⟨k, h1, h2, h3⟩
    ·left
     rw [h1]
     exact ⟨rfl, h2⟩
    ·right
     refine ⟨k + 1, ?_, by simp; omega, by rw [h3]; rfl⟩
     rw [h1]
     have hk : ((k : Int) == -1) = false := by rw [beq_eq_false_iff_ne]; omega
     rw [hk]
     simp
def digB (c : Int) : Bool := decide (48 ≤ c) && decide (c ≤ 57)
def blkB (c : Int) : Bool := c == 32 || c == 9
def metB (c : Int) : Bool := c == 32 || c == 9 || c == 10 || c == 124 || c == 38 || c == 59 || c == 60 || c == 62 || c == 40 || c == 41
theorem digit_any (c : Int) (w : World) : Calls Tryz.prog 94 #[.int .u8 c] w fun e w' => e = .returned (.bool (digB c)) ∧ w' = w := by
 by_cases h1 : 48 ≤ c
 all_goals by_cases h2 : c ≤ 57
 all_goals
  go_enter Tryz.func94, Tryz.ntmps94
  go_wp2
  go_ret
  exact ⟨ret_bool (by unfold digB; simp [*]), rfl⟩
def amgB (l : List UInt8) (c : Int) : Bool := decide (0 ≤ Lib.indexByte l c.toNat.toUInt8)
theorem among1_any (p : Nat) (s : ByteArray) (c : Int) (w : World) (hp : w.cell? ⟨p, 0, none⟩ = some (.string s)) :
 Calls Tryz.prog 82 #[.int .u8 c, .pointer (some ⟨p, 0, none⟩)] w fun e w' => e = .returned (.bool (amgB s.data.toList c)) ∧ w' = w := by
 go_enter Tryz.func82, Tryz.ntmps82
 go_wp2_with (go_at_call 83; refine (Tryz.strings_IndexByte _ _ _).mono ?_; rintro e w' ⟨rfl, rfl⟩)
 go_ret
 exact ⟨rfl, rfl⟩
theorem among_any (s : ByteArray) (w : World) :
 Calls Tryz.prog 67 #[.string s] w fun e w' => e = .returned (.func (Fn.func 82) #[] #[.pointer (some ⟨w.heap.size, 0, none⟩)]) ∧ w' = w.alloc (.cells #[.string s] 9) := by
 go_enter Tryz.func67, Tryz.ntmps67
 go_wp2
 go_ret
 exact ⟨rfl, rfl⟩
theorem blank_amg (c : Int) (w : World) :
 Calls Tryz.prog 47 #[.int .u8 c] w fun e w' => e = .returned (.bool (amgB [32, 9] c)) ∧ Below w.heap.size w w' := by
 go_enter Tryz.func47, Tryz.ntmps47
 go_wp2_with fail
 refine (among_any _ _).mono ?_
 rintro e w' ⟨rfl, rfl⟩
 go_wp2_with fail
 refine (among1_any _ ⟨#[32, 9]⟩ _ _ (by go_simp)).mono ?_
 rintro e w' ⟨rfl, rfl⟩
 go_wp2
 go_ret
 exact ⟨rfl, (Below.refl _ _).alloc (ler _) _⟩
theorem amg_blank_all : ((List.range 256).all fun n => amgB [32, 9] (n : Int) == blkB (n : Int)) = true := by kernel_rfl
theorem amg_meta_all : ((List.range 256).all fun n => (blkB (n : Int) || amgB [10, 124, 38, 59, 60, 62, 40, 41] (n : Int)) == metB (n : Int)) = true := by kernel_rfl
theorem amg_blank (c : Int) (h0 : 0 ≤ c) (h1 : c ≤ 255) : amgB [32, 9] c = blkB c := by
 obtain ⟨n, rfl⟩ : ∃ n : Nat, c = n := ⟨c.toNat, by omega⟩
 simpa using List.all_eq_true.1 amg_blank_all n (List.mem_range.2 (by omega))
theorem amg_meta (c : Int) (h0 : 0 ≤ c) (h1 : c ≤ 255) : (blkB c || amgB [10, 124, 38, 59, 60, 62, 40, 41] c) = metB c := by
 obtain ⟨n, rfl⟩ : ∃ n : Nat, c = n := ⟨c.toNat, by omega⟩
 exact beq_iff_eq.1 (List.all_eq_true.1 amg_meta_all n (List.mem_range.2 (by omega)))
theorem blank_any (c : Int) (w : World) (h0 : 0 ≤ c) (h1 : c ≤ 255) :
 Calls Tryz.prog 47 #[.int .u8 c] w fun e w' => e = .returned (.bool (blkB c)) ∧ Below w.heap.size w w' := by
 rw [← amg_blank c h0 h1]
 exact blank_amg c w
theorem meta_any (c : Int) (w : World) (h0 : 0 ≤ c) (h1 : c ≤ 255) :
 Calls Tryz.prog 71 #[.int .u8 c] w fun e w' => e = .returned (.bool (metB c)) ∧ Below w.heap.size w w' := by
 rcases Bool.eq_false_or_eq_true (amgB [32, 9] c) with hb | hb
 ·go_enter Tryz.func71, Tryz.ntmps71
  go_wp2_with fail
  refine (blank_amg _ _).mono ?_
  rintro e w1 ⟨rfl, b1⟩
  go_wp2_with fail
  go_ret
  exact ⟨ret_bool (by rw [← amg_meta c h0 h1, ← amg_blank c h0 h1, hb]; rfl), b1⟩
 ·go_enter Tryz.func71, Tryz.ntmps71
  go_wp2_with fail
  refine (blank_amg _ _).mono ?_
  rintro e w1 ⟨rfl, b1⟩
  go_wp2_with fail
  refine (among_any _ _).mono ?_
  rintro e w' ⟨rfl, rfl⟩
  go_wp2_with fail
  refine (among1_any _ ⟨#[10, 124, 38, 59, 60, 62, 40, 41]⟩ _ _ (by go_simp)).mono ?_
  rintro e w' ⟨rfl, rfl⟩
  go_wp2_with fail
  go_ret
  exact ⟨ret_bool (by rw [← amg_meta c h0 h1, ← amg_blank c h0 h1, hb]; rfl), b1.alloc b1.size _⟩
theorem byte_range (c : UInt8) : (0 : Int) ≤ (c.toNat : Int) ∧ (c.toNat : Int) ≤ 255 := by
 have := c.toNat_lt
 omega
def opsT : List (List UInt8) := [[60, 60, 45], [60, 60], [60, 38], [60, 62], [60], [62, 62], [62, 38], [62], [38, 38], [38], [124, 124], [124], [59, 59], [59], [40], [41]]
def opFrom (l : List UInt8) (k : Nat) : List UInt8 := ((opsT.drop k).find? (fun o => Lib.hasPrefix l o)).getD []
def opL (l : List UInt8) : List UInt8 := opFrom l 0
structure OpsAt (w : World) : Prop where
 at0 : w.cell? ⟨0, 0, none⟩ = some (.string ⟨#[60, 60, 45]⟩)
 at1 : w.cell? ⟨0, 1, none⟩ = some (.string ⟨#[60, 60]⟩)
 at2 : w.cell? ⟨0, 2, none⟩ = some (.string ⟨#[60, 38]⟩)
 at3 : w.cell? ⟨0, 3, none⟩ = some (.string ⟨#[60, 62]⟩)
 at4 : w.cell? ⟨0, 4, none⟩ = some (.string ⟨#[60]⟩)
 at5 : w.cell? ⟨0, 5, none⟩ = some (.string ⟨#[62, 62]⟩)
 at6 : w.cell? ⟨0, 6, none⟩ = some (.string ⟨#[62, 38]⟩)
 at7 : w.cell? ⟨0, 7, none⟩ = some (.string ⟨#[62]⟩)
 at8 : w.cell? ⟨0, 8, none⟩ = some (.string ⟨#[38, 38]⟩)
 at9 : w.cell? ⟨0, 9, none⟩ = some (.string ⟨#[38]⟩)
 at10 : w.cell? ⟨0, 10, none⟩ = some (.string ⟨#[124, 124]⟩)
 at11 : w.cell? ⟨0, 11, none⟩ = some (.string ⟨#[124]⟩)
 at12 : w.cell? ⟨0, 12, none⟩ = some (.string ⟨#[59, 59]⟩)
 at13 : w.cell? ⟨0, 13, none⟩ = some (.string ⟨#[59]⟩)
 at14 : w.cell? ⟨0, 14, none⟩ = some (.string ⟨#[40]⟩)
 at15 : w.cell? ⟨0, 15, none⟩ = some (.string ⟨#[41]⟩)
theorem opFrom_yes {l o : List UInt8} {k : Nat} {t : List (List UInt8)} (hk : opsT.drop k = o :: t) (h : Lib.hasPrefix l o = true) : opFrom l k = o := by
 unfold opFrom
 rw [hk, List.find?_cons, h]
 rfl
theorem opFrom_no {l o : List UInt8} {k : Nat} {t : List (List UInt8)} (hk : opsT.drop k = o :: t) (h : Lib.hasPrefix l o = false) : opFrom l k = opFrom l (k + 1) := by
 unfold opFrom
 rw [hk, List.find?_cons, h, ← List.drop_drop, hk]
 rfl
theorem idx0 (w : World) : (Instr.index 107 (Value.agg #[Value.string ⟨#[60, 60, 45]⟩, Value.string ⟨#[60, 60]⟩, Value.string ⟨#[60, 38]⟩, Value.string ⟨#[60, 62]⟩, Value.string ⟨#[60]⟩, Value.string ⟨#[62, 62]⟩, Value.string ⟨#[62, 38]⟩, Value.string ⟨#[62]⟩, Value.string ⟨#[38, 38]⟩, Value.string ⟨#[38]⟩, Value.string ⟨#[124, 124]⟩, Value.string ⟨#[124]⟩, Value.string ⟨#[59, 59]⟩, Value.string ⟨#[59]⟩, Value.string ⟨#[40]⟩, Value.string ⟨#[41]⟩]) (Value.int IntKind.i64 0)).run Tryz.prog w = .ok (.string ⟨#[60, 60, 45]⟩) w := by kernel_rfl
theorem idx1 (w : World) : (Instr.index 107 (Value.agg #[Value.string ⟨#[60, 60, 45]⟩, Value.string ⟨#[60, 60]⟩, Value.string ⟨#[60, 38]⟩, Value.string ⟨#[60, 62]⟩, Value.string ⟨#[60]⟩, Value.string ⟨#[62, 62]⟩, Value.string ⟨#[62, 38]⟩, Value.string ⟨#[62]⟩, Value.string ⟨#[38, 38]⟩, Value.string ⟨#[38]⟩, Value.string ⟨#[124, 124]⟩, Value.string ⟨#[124]⟩, Value.string ⟨#[59, 59]⟩, Value.string ⟨#[59]⟩, Value.string ⟨#[40]⟩, Value.string ⟨#[41]⟩]) (Value.int IntKind.i64 1)).run Tryz.prog w = .ok (.string ⟨#[60, 60]⟩) w := by kernel_rfl
theorem idx2 (w : World) : (Instr.index 107 (Value.agg #[Value.string ⟨#[60, 60, 45]⟩, Value.string ⟨#[60, 60]⟩, Value.string ⟨#[60, 38]⟩, Value.string ⟨#[60, 62]⟩, Value.string ⟨#[60]⟩, Value.string ⟨#[62, 62]⟩, Value.string ⟨#[62, 38]⟩, Value.string ⟨#[62]⟩, Value.string ⟨#[38, 38]⟩, Value.string ⟨#[38]⟩, Value.string ⟨#[124, 124]⟩, Value.string ⟨#[124]⟩, Value.string ⟨#[59, 59]⟩, Value.string ⟨#[59]⟩, Value.string ⟨#[40]⟩, Value.string ⟨#[41]⟩]) (Value.int IntKind.i64 2)).run Tryz.prog w = .ok (.string ⟨#[60, 38]⟩) w := by kernel_rfl
theorem idx3 (w : World) : (Instr.index 107 (Value.agg #[Value.string ⟨#[60, 60, 45]⟩, Value.string ⟨#[60, 60]⟩, Value.string ⟨#[60, 38]⟩, Value.string ⟨#[60, 62]⟩, Value.string ⟨#[60]⟩, Value.string ⟨#[62, 62]⟩, Value.string ⟨#[62, 38]⟩, Value.string ⟨#[62]⟩, Value.string ⟨#[38, 38]⟩, Value.string ⟨#[38]⟩, Value.string ⟨#[124, 124]⟩, Value.string ⟨#[124]⟩, Value.string ⟨#[59, 59]⟩, Value.string ⟨#[59]⟩, Value.string ⟨#[40]⟩, Value.string ⟨#[41]⟩]) (Value.int IntKind.i64 3)).run Tryz.prog w = .ok (.string ⟨#[60, 62]⟩) w := by kernel_rfl
theorem idx4 (w : World) : (Instr.index 107 (Value.agg #[Value.string ⟨#[60, 60, 45]⟩, Value.string ⟨#[60, 60]⟩, Value.string ⟨#[60, 38]⟩, Value.string ⟨#[60, 62]⟩, Value.string ⟨#[60]⟩, Value.string ⟨#[62, 62]⟩, Value.string ⟨#[62, 38]⟩, Value.string ⟨#[62]⟩, Value.string ⟨#[38, 38]⟩, Value.string ⟨#[38]⟩, Value.string ⟨#[124, 124]⟩, Value.string ⟨#[124]⟩, Value.string ⟨#[59, 59]⟩, Value.string ⟨#[59]⟩, Value.string ⟨#[40]⟩, Value.string ⟨#[41]⟩]) (Value.int IntKind.i64 4)).run Tryz.prog w = .ok (.string ⟨#[60]⟩) w := by kernel_rfl
theorem idx5 (w : World) : (Instr.index 107 (Value.agg #[Value.string ⟨#[60, 60, 45]⟩, Value.string ⟨#[60, 60]⟩, Value.string ⟨#[60, 38]⟩, Value.string ⟨#[60, 62]⟩, Value.string ⟨#[60]⟩, Value.string ⟨#[62, 62]⟩, Value.string ⟨#[62, 38]⟩, Value.string ⟨#[62]⟩, Value.string ⟨#[38, 38]⟩, Value.string ⟨#[38]⟩, Value.string ⟨#[124, 124]⟩, Value.string ⟨#[124]⟩, Value.string ⟨#[59, 59]⟩, Value.string ⟨#[59]⟩, Value.string ⟨#[40]⟩, Value.string ⟨#[41]⟩]) (Value.int IntKind.i64 5)).run Tryz.prog w = .ok (.string ⟨#[62, 62]⟩) w := by kernel_rfl
theorem idx6 (w : World) : (Instr.index 107 (Value.agg #[Value.string ⟨#[60, 60, 45]⟩, Value.string ⟨#[60, 60]⟩, Value.string ⟨#[60, 38]⟩, Value.string ⟨#[60, 62]⟩, Value.string ⟨#[60]⟩, Value.string ⟨#[62, 62]⟩, Value.string ⟨#[62, 38]⟩, Value.string ⟨#[62]⟩, Value.string ⟨#[38, 38]⟩, Value.string ⟨#[38]⟩, Value.string ⟨#[124, 124]⟩, Value.string ⟨#[124]⟩, Value.string ⟨#[59, 59]⟩, Value.string ⟨#[59]⟩, Value.string ⟨#[40]⟩, Value.string ⟨#[41]⟩]) (Value.int IntKind.i64 6)).run Tryz.prog w = .ok (.string ⟨#[62, 38]⟩) w := by kernel_rfl
theorem idx7 (w : World) : (Instr.index 107 (Value.agg #[Value.string ⟨#[60, 60, 45]⟩, Value.string ⟨#[60, 60]⟩, Value.string ⟨#[60, 38]⟩, Value.string ⟨#[60, 62]⟩, Value.string ⟨#[60]⟩, Value.string ⟨#[62, 62]⟩, Value.string ⟨#[62, 38]⟩, Value.string ⟨#[62]⟩, Value.string ⟨#[38, 38]⟩, Value.string ⟨#[38]⟩, Value.string ⟨#[124, 124]⟩, Value.string ⟨#[124]⟩, Value.string ⟨#[59, 59]⟩, Value.string ⟨#[59]⟩, Value.string ⟨#[40]⟩, Value.string ⟨#[41]⟩]) (Value.int IntKind.i64 7)).run Tryz.prog w = .ok (.string ⟨#[62]⟩) w := by kernel_rfl
theorem idx8 (w : World) : (Instr.index 107 (Value.agg #[Value.string ⟨#[60, 60, 45]⟩, Value.string ⟨#[60, 60]⟩, Value.string ⟨#[60, 38]⟩, Value.string ⟨#[60, 62]⟩, Value.string ⟨#[60]⟩, Value.string ⟨#[62, 62]⟩, Value.string ⟨#[62, 38]⟩, Value.string ⟨#[62]⟩, Value.string ⟨#[38, 38]⟩, Value.string ⟨#[38]⟩, Value.string ⟨#[124, 124]⟩, Value.string ⟨#[124]⟩, Value.string ⟨#[59, 59]⟩, Value.string ⟨#[59]⟩, Value.string ⟨#[40]⟩, Value.string ⟨#[41]⟩]) (Value.int IntKind.i64 8)).run Tryz.prog w = .ok (.string ⟨#[38, 38]⟩) w := by kernel_rfl
theorem idx9 (w : World) : (Instr.index 107 (Value.agg #[Value.string ⟨#[60, 60, 45]⟩, Value.string ⟨#[60, 60]⟩, Value.string ⟨#[60, 38]⟩, Value.string ⟨#[60, 62]⟩, Value.string ⟨#[60]⟩, Value.string ⟨#[62, 62]⟩, Value.string ⟨#[62, 38]⟩, Value.string ⟨#[62]⟩, Value.string ⟨#[38, 38]⟩, Value.string ⟨#[38]⟩, Value.string ⟨#[124, 124]⟩, Value.string ⟨#[124]⟩, Value.string ⟨#[59, 59]⟩, Value.string ⟨#[59]⟩, Value.string ⟨#[40]⟩, Value.string ⟨#[41]⟩]) (Value.int IntKind.i64 9)).run Tryz.prog w = .ok (.string ⟨#[38]⟩) w := by kernel_rfl
theorem idx10 (w : World) : (Instr.index 107 (Value.agg #[Value.string ⟨#[60, 60, 45]⟩, Value.string ⟨#[60, 60]⟩, Value.string ⟨#[60, 38]⟩, Value.string ⟨#[60, 62]⟩, Value.string ⟨#[60]⟩, Value.string ⟨#[62, 62]⟩, Value.string ⟨#[62, 38]⟩, Value.string ⟨#[62]⟩, Value.string ⟨#[38, 38]⟩, Value.string ⟨#[38]⟩, Value.string ⟨#[124, 124]⟩, Value.string ⟨#[124]⟩, Value.string ⟨#[59, 59]⟩, Value.string ⟨#[59]⟩, Value.string ⟨#[40]⟩, Value.string ⟨#[41]⟩]) (Value.int IntKind.i64 10)).run Tryz.prog w = .ok (.string ⟨#[124, 124]⟩) w := by kernel_rfl
theorem idx11 (w : World) : (Instr.index 107 (Value.agg #[Value.string ⟨#[60, 60, 45]⟩, Value.string ⟨#[60, 60]⟩, Value.string ⟨#[60, 38]⟩, Value.string ⟨#[60, 62]⟩, Value.string ⟨#[60]⟩, Value.string ⟨#[62, 62]⟩, Value.string ⟨#[62, 38]⟩, Value.string ⟨#[62]⟩, Value.string ⟨#[38, 38]⟩, Value.string ⟨#[38]⟩, Value.string ⟨#[124, 124]⟩, Value.string ⟨#[124]⟩, Value.string ⟨#[59, 59]⟩, Value.string ⟨#[59]⟩, Value.string ⟨#[40]⟩, Value.string ⟨#[41]⟩]) (Value.int IntKind.i64 11)).run Tryz.prog w = .ok (.string ⟨#[124]⟩) w := by kernel_rfl
theorem idx12 (w : World) : (Instr.index 107 (Value.agg #[Value.string ⟨#[60, 60, 45]⟩, Value.string ⟨#[60, 60]⟩, Value.string ⟨#[60, 38]⟩, Value.string ⟨#[60, 62]⟩, Value.string ⟨#[60]⟩, Value.string ⟨#[62, 62]⟩, Value.string ⟨#[62, 38]⟩, Value.string ⟨#[62]⟩, Value.string ⟨#[38, 38]⟩, Value.string ⟨#[38]⟩, Value.string ⟨#[124, 124]⟩, Value.string ⟨#[124]⟩, Value.string ⟨#[59, 59]⟩, Value.string ⟨#[59]⟩, Value.string ⟨#[40]⟩, Value.string ⟨#[41]⟩]) (Value.int IntKind.i64 12)).run Tryz.prog w = .ok (.string ⟨#[59, 59]⟩) w := by kernel_rfl
theorem idx13 (w : World) : (Instr.index 107 (Value.agg #[Value.string ⟨#[60, 60, 45]⟩, Value.string ⟨#[60, 60]⟩, Value.string ⟨#[60, 38]⟩, Value.string ⟨#[60, 62]⟩, Value.string ⟨#[60]⟩, Value.string ⟨#[62, 62]⟩, Value.string ⟨#[62, 38]⟩, Value.string ⟨#[62]⟩, Value.string ⟨#[38, 38]⟩, Value.string ⟨#[38]⟩, Value.string ⟨#[124, 124]⟩, Value.string ⟨#[124]⟩, Value.string ⟨#[59, 59]⟩, Value.string ⟨#[59]⟩, Value.string ⟨#[40]⟩, Value.string ⟨#[41]⟩]) (Value.int IntKind.i64 13)).run Tryz.prog w = .ok (.string ⟨#[59]⟩) w := by kernel_rfl
theorem idx14 (w : World) : (Instr.index 107 (Value.agg #[Value.string ⟨#[60, 60, 45]⟩, Value.string ⟨#[60, 60]⟩, Value.string ⟨#[60, 38]⟩, Value.string ⟨#[60, 62]⟩, Value.string ⟨#[60]⟩, Value.string ⟨#[62, 62]⟩, Value.string ⟨#[62, 38]⟩, Value.string ⟨#[62]⟩, Value.string ⟨#[38, 38]⟩, Value.string ⟨#[38]⟩, Value.string ⟨#[124, 124]⟩, Value.string ⟨#[124]⟩, Value.string ⟨#[59, 59]⟩, Value.string ⟨#[59]⟩, Value.string ⟨#[40]⟩, Value.string ⟨#[41]⟩]) (Value.int IntKind.i64 14)).run Tryz.prog w = .ok (.string ⟨#[40]⟩) w := by kernel_rfl
theorem idx15 (w : World) : (Instr.index 107 (Value.agg #[Value.string ⟨#[60, 60, 45]⟩, Value.string ⟨#[60, 60]⟩, Value.string ⟨#[60, 38]⟩, Value.string ⟨#[60, 62]⟩, Value.string ⟨#[60]⟩, Value.string ⟨#[62, 62]⟩, Value.string ⟨#[62, 38]⟩, Value.string ⟨#[62]⟩, Value.string ⟨#[38, 38]⟩, Value.string ⟨#[38]⟩, Value.string ⟨#[124, 124]⟩, Value.string ⟨#[124]⟩, Value.string ⟨#[59, 59]⟩, Value.string ⟨#[59]⟩, Value.string ⟨#[40]⟩, Value.string ⟨#[41]⟩]) (Value.int IntKind.i64 15)).run Tryz.prog w = .ok (.string ⟨#[41]⟩) w := by kernel_rfl
theorem operator_any (l : List UInt8) (w : World) (ho : OpsAt w) : Calls Tryz.prog 50 #[.string (BA l)] w fun e w' => e = .returned (.string (BA (opL l))) ∧ w' = w := by
 obtain ⟨a0, a1, a2, a3, a4, a5, a6, a7, a8, a9, a10, a11, a12, a13, a14, a15⟩ := ho
 go_enter Tryz.func50, Tryz.ntmps50
 go_wp2_with fail
 go_loop [6] (fun x => ∃ k : Int, x = .int .i64 k ∧ 0 ≤ k ∧ k ≤ 16 ∧ Hid (opFrom l k.toNat = opL l)) (fun x => 16 - (intOf x).toNat)
 case atStart => exact ⟨0, rfl, by decide, by decide, hide rfl⟩
 case round =>
  clear a0 a1 a2 a3 a4 a5 a6 a7 a8 a9 a10 a11 a12 a13 a14 a15
  obtain ⟨k, rfl, hk0, hk1, HK⟩ := hrel
  by_cases hk16 : k = 16
  ·subst hk16
   have HR : Hid ([] = opL l) := HK
   clear HK
   go_wp2
   go_ret
   rw [← uh HR]
   exact ⟨rfl, rfl⟩
  have hc : k = 0 ∨ k = 1 ∨ k = 2 ∨ k = 3 ∨ k = 4 ∨ k = 5 ∨ k = 6 ∨ k = 7 ∨ k = 8 ∨ k = 9 ∨ k = 10 ∨ k = 11 ∨ k = 12 ∨ k = 13 ∨ k = 14 ∨ k = 15 := by omega
  clear hk0 hk1 hk16
  rcases hc with rfl | rfl | rfl | rfl | rfl | rfl | rfl | rfl | rfl | rfl | rfl | rfl | rfl | rfl | rfl | rfl
  all_goals
   have hidx := idx0 w
   have hidx1 := idx1 w
   have hidx2 := idx2 w
   have hidx3 := idx3 w
   have hidx4 := idx4 w
   have hidx5 := idx5 w
   have hidx6 := idx6 w
   have hidx7 := idx7 w
   have hidx8 := idx8 w
   have hidx9 := idx9 w
   have hidx10 := idx10 w
   have hidx11 := idx11 w
   have hidx12 := idx12 w
   have hidx13 := idx13 w
   have hidx14 := idx14 w
   have hidx15 := idx15 w
   go_wp2_with fail
   refine (Tryz.strings_HasPrefix _ _ _).mono ?_
   rintro en w4 ⟨rfl, hw4⟩
   have hw5 := hw4.symm
   subst hw5
   clear hw4
   rw [BA_list]
   generalize hv : Lib.hasPrefix l _ = v
   cases v
   ·have HN := hide ((opFrom_no rfl hv).symm.trans (uh HK))
    clear hv
    go_wp2
    go_round
    case rel => exact ⟨_, rfl, by decide, by decide, HN⟩
    case measure => simp [intOf]
   ·have HY := hide ((opFrom_yes rfl hv).symm.trans (uh HK))
    clear hv
    go_wp2
    go_ret
    rw [← uh HY]
    exact ⟨rfl, rfl⟩
def digsB (l : List UInt8) : Bool := l.all (fun c => digB (c.toNat : Int))
theorem digits_any (s : ByteArray) (w : World) (hs : s.size ≤ 100000) : Calls Tryz.prog 73 #[.string s] w fun e w' => e = .returned (.bool (digsB s.data.toList)) ∧ w' = w := by
 go_enter Tryz.func73, Tryz.ntmps73
 go_wp2_with fail
 go_loop [6] (fun x => ∃ k : Nat, x = .int .i64 (k : Int) ∧ k ≤ s.size ∧ Hid (digsB (s.data.toList.drop k) = digsB s.data.toList)) (fun x => s.size - (intOf x).toNat)
 case atStart => exact ⟨0, rfl, Nat.zero_le _, hide rfl⟩
 case round =>
  obtain ⟨k, rfl, hks, HK⟩ := hrel
  by_cases hk : k < s.size
  ·have hk' : (k : Int) < (s.size : Int) := by omega
   obtain ⟨k1, hk1⟩ : ∃ x, x = k + 1 := ⟨_, rfl⟩
   have hwk : IntKind.i64.wrap ((k : Int) + 1) = (k1 : Int) := by rw [IntKind.wrap_i64]; omega
   have hd : digsB (s.data.toList.drop k) = (digB (s[k].toNat : Int) && digsB (s.data.toList.drop k1)) := by rw [drop_at hk, hk1]; rfl
   have hk1s : k1 ≤ s.size ∧ k < k1 := by omega
   rcases Bool.eq_false_or_eq_true (digB (s[k].toNat : Int)) with hb | hb
   ·have HN : Hid (digsB (s.data.toList.drop k1) = digsB s.data.toList) := hide (by rw [← uh HK, hd, hb]; rfl)
    clear hd hk1
    go_wp2_with fail
    refine (digit_any _ _).mono ?_
    rintro en w4 ⟨rfl, hw4⟩
    have hw5 := hw4.symm
    subst hw5
    clear hw4
    rw [hb]
    clear hb
    go_wp2
    go_round
    case rel => exact ⟨k1, rfl, hk1s.1, HN⟩
    case measure => simp [intOf]; omega
   ·have HN : Hid (digsB s.data.toList = false) := hide (by rw [← uh HK, hd, hb]; rfl)
    clear hd hk1
    go_wp2_with fail
    refine (digit_any _ _).mono ?_
    rintro en w4 ⟨rfl, hw4⟩
    have hw5 := hw4.symm
    subst hw5
    clear hw4
    rw [hb]
    clear hb
    go_wp2
    go_ret
    rw [uh HN]
    exact ⟨rfl, rfl⟩
  ·have hk' : ¬ (k : Int) < (s.size : Int) := by omega
   have HN : Hid (digsB s.data.toList = true) := hide (by rw [← uh HK, drop_nil (by omega)]; rfl)
   go_wp2
   go_ret
   rw [uh HN]
   exact ⟨rfl, rfl⟩
end Go.Proofs.YtojjfdobilkknaaGreatDoor

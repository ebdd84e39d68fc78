/-
  The reader's state, and its small methods.
-/
import Derived.Test.YtodcfgbcigjjfaaDoorThing
namespace Go.Proofs.YtodcfgbcigjjfaaDoor
open Go.RowKit

/-- Block b begins with the reader: the depth, the text, the place, what is wrong, the byte that is to blame; behind it tl. -/
structure Rdr (w : World) (b : Nat) (t : TypeId) (tl : List Value) (s : ByteArray) (p d : Nat) (f bl : Int) : Prop where
  blk : Blk w b t (.int .i64 (d : Int) :: .string s :: .int .i64 (p : Int) :: .int .i64 f :: .int .i64 bl :: tl).toArray
  le : p ≤ s.size
  len : s.size ≤ 100000
  dle : d ≤ 40
theorem Rdr.kept {w' : World} {w : World} {b : Nat} {t : TypeId} {tl : List Value} {s : ByteArray} {p d : Nat} {f bl : Int} (h : Rdr w b t tl s p d f bl) (hg : w.grownBy w' none) : Rdr w' b t tl s p d f bl := ⟨h.blk.kept hg (by simp), h.le, h.len, h.dle⟩
theorem Rdr.c0 {w : World} {b : Nat} {t : TypeId} {tl : List Value} {s : ByteArray} {p d : Nat} {f bl : Int} (h : Rdr w b t tl s p d f bl) : w.cell? ⟨b, 0, none⟩ = some (.int .i64 (d : Int)) := h.blk.cell 0 (by simp)
theorem Rdr.c1 {w : World} {b : Nat} {t : TypeId} {tl : List Value} {s : ByteArray} {p d : Nat} {f bl : Int} (h : Rdr w b t tl s p d f bl) : w.cell? ⟨b, 1, none⟩ = some (.string s) := h.blk.cell 1 (by simp)
theorem Rdr.c2 {w : World} {b : Nat} {t : TypeId} {tl : List Value} {s : ByteArray} {p d : Nat} {f bl : Int} (h : Rdr w b t tl s p d f bl) : w.cell? ⟨b, 2, none⟩ = some (.int .i64 (p : Int)) := h.blk.cell 2 (by simp)
theorem Rdr.c3 {w : World} {b : Nat} {t : TypeId} {tl : List Value} {s : ByteArray} {p d : Nat} {f bl : Int} (h : Rdr w b t tl s p d f bl) : w.cell? ⟨b, 3, none⟩ = some (.int .i64 f) := h.blk.cell 3 (by simp)
theorem Rdr.c4 {w : World} {b : Nat} {t : TypeId} {tl : List Value} {s : ByteArray} {p d : Nat} {f bl : Int} (h : Rdr w b t tl s p d f bl) : w.cell? ⟨b, 4, none⟩ = some (.int .i64 bl) := h.blk.cell 4 (by simp)
theorem Rdr.to {w : World} {b : Nat} {t : TypeId} {tl : List Value} {s : ByteArray} {p d : Nat} {f bl : Int} (h : Rdr w b t tl s p d f bl) (q : Nat) (hq : q ≤ s.size) : Rdr (w.setCell ⟨b, 2, none⟩ (.int .i64 (q : Int))) b t tl s q d f bl := by
  refine ⟨?_, hq, h.len, h.dle⟩
  have := h.blk.set 2 (.int .i64 (q : Int))
  rwa [List.setIfInBounds_toArray] at this
theorem Rdr.deep {w : World} {b : Nat} {t : TypeId} {tl : List Value} {s : ByteArray} {p d : Nat} {f bl : Int} (h : Rdr w b t tl s p d f bl) (d' : Nat) (hd : d' ≤ 40) : Rdr (w.setCell ⟨b, 0, none⟩ (.int .i64 (d' : Int))) b t tl s p d' f bl := by
  refine ⟨?_, h.le, h.len, hd⟩
  have := h.blk.set 0 (.int .i64 (d' : Int))
  rwa [List.setIfInBounds_toArray] at this
theorem Rdr.bad {w : World} {b : Nat} {t : TypeId} {tl : List Value} {s : ByteArray} {p d : Nat} {f bl : Int} (h : Rdr w b t tl s p d f bl) (e x : Int) : Rdr ((w.setCell ⟨b, 3, none⟩ (.int .i64 e)).setCell ⟨b, 4, none⟩ (.int .i64 x)) b t tl s p d e x := by
  refine ⟨?_, h.le, h.len, h.dle⟩
  have := (h.blk.set 3 (.int .i64 e)).set 4 (.int .i64 x)
  rwa [List.setIfInBounds_toArray, List.setIfInBounds_toArray] at this
def atOf (b : Nat) (w : World) : Nat := (intOf ((w.cell? ⟨b, 2, none⟩).getD (.int .i64 0))).toNat
theorem Rdr.at {w : World} {b : Nat} {t : TypeId} {tl : List Value} {s : ByteArray} {p d : Nat} {f bl : Int} (h : Rdr w b t tl s p d f bl) : atOf b w = p := by
  unfold atOf
  rw [h.c2]
  simp [intOf]

def fltOf (b : Nat) (w : World) : Int := intOf ((w.cell? ⟨b, 3, none⟩).getD (.int .i64 0))
theorem Rdr.flt {w : World} {b : Nat} {t : TypeId} {tl : List Value} {s : ByteArray} {p d : Nat} {f bl : Int} (h : Rdr w b t tl s p d f bl) : fltOf b w = f := by
  unfold fltOf
  rw [h.c3]
  simp [intOf]
/-- How much there is to be read: nothing, where something is wrong. -/
def msr (s : ByteArray) (b : Nat) (w : World) : Nat := if fltOf b w = 0 then s.size - atOf b w + 1 else 0
theorem Rdr.msr0 {w : World} {b : Nat} {t : TypeId} {tl : List Value} {s : ByteArray} {p d : Nat} {bl : Int} (h : Rdr w b t tl s p d 0 bl) : msr s b w = s.size - p + 1 := by
  unfold msr
  rw [h.flt, if_pos rfl, h.at]
theorem Rdr.msr1 {w : World} {b : Nat} {t : TypeId} {tl : List Value} {s : ByteArray} {p d : Nat} {f bl : Int} (h : Rdr w b t tl s p d f bl) (hf : f ≠ 0) : msr s b w = 0 := by
  unfold msr
  rw [h.flt, if_neg hf]

/-- Whether there is a byte to be read. -/
def moreB (s : ByteArray) (p : Nat) (f : Int) : Bool := (f == 0) && decide (p < s.size)
set_option maxRecDepth 20000 in
set_option maxHeartbeats 800000 in
theorem more_any {w : World} {b : Nat} {t : TypeId} {tl : List Value} {s : ByteArray} {p d : Nat} {f bl : Int} (h : Rdr w b t tl s p d f bl) : Calls Tryd.prog 102 #[.pointer (some ⟨b, 0, none⟩)] w fun e w' => e = .returned (.bool (moreB s p f)) ∧ ∃ k, w' = w.drewN k := by
  have c1 := h.c1
  have c2 := h.c2
  have c3 := h.c3
  have hlen := h.len
  clear h
  by_cases hf : f = 0
  · subst hf
    by_cases hp : p < s.size
    · have hp' : (p : Int) < (s.size : Int) := by omega
      have hm : moreB s p 0 = true := by unfold moreB; rw [decide_eq_true hp]; rfl
      rw [hm]
      clear hm hp
      go_enter Tryd.func102, Tryd.ntmps102
      go_wp2_with fail
      go_quiet (fail)
      go_wp2
      go_ret
      exact ⟨rfl, _, rfl⟩
    · have hp' : ¬ (p : Int) < (s.size : Int) := by omega
      have hm : moreB s p 0 = false := by unfold moreB; rw [decide_eq_false hp]; rfl
      rw [hm]
      clear hm
      have HP := hide hp
      clear hp
      go_enter Tryd.func102, Tryd.ntmps102
      go_wp2_with fail
      go_quiet (fail)
      go_wp2
      go_ret
      exact ⟨ret_bool (decide_eq_false (unhide HP)), _, rfl⟩
  · have hf' : (f == 0) = false := by simpa using hf
    have hm : moreB s p f = false := by unfold moreB; rw [hf']; rfl
    rw [hm]
    clear hm hf'
    go_enter Tryd.func102, Tryd.ntmps102
    go_wp2_with fail
    go_quiet (fail)
    go_wp2
    go_ret
    exact ⟨rfl, _, rfl⟩

set_option maxRecDepth 20000 in
set_option maxHeartbeats 800000 in
theorem sees_any (q : ByteArray) {w : World} {b : Nat} {t : TypeId} {tl : List Value} {s : ByteArray} {p d : Nat} {f bl : Int} (h : Rdr w b t tl s p d f bl) : Calls Tryd.prog 93 #[.pointer (some ⟨b, 0, none⟩), .string q] w fun e w' => e = .returned (.bool (Lib.hasPrefix (s.data.toList.drop p) q.data.toList)) ∧ ∃ k, w' = w.drewN k := by
  have c1 := h.c1
  have c2 := h.c2
  have hle := h.le
  have hlen := h.len
  clear h
  have HP : Hid (∀ w, Calls Tryd.prog 99 #[.string (s.extract p s.size), .string q] w fun e w' => e = .returned (.bool (Lib.hasPrefix (s.data.toList.drop p) q.data.toList)) ∧ w' = w) := hide (fun w => by
    have := Tryd.strings_HasPrefix (s.extract p s.size) q w
    rw [extract_end, BA_list] at this
    rw [extract_end]
    exact this)
  go_enter Tryd.func93, Tryd.ntmps93
  go_wp2_with fail
  go_quiet ((go_at_call 99; exact Calls.quiet_of_same (unhide HP _)))
  go_wp2
  go_ret
  exact ⟨rfl, _, rfl⟩

set_option maxRecDepth 20000 in
set_option maxHeartbeats 800000 in
theorem fail_any (e x : Int) {w : World} {b : Nat} {t : TypeId} {tl : List Value} {s : ByteArray} {p d : Nat} {bl : Int} (h : Rdr w b t tl s p d 0 bl) : Calls Tryd.prog 98 #[.pointer (some ⟨b, 0, none⟩), .int .i64 e, .int .i64 x] w fun en w' => en = .returned (.tuple #[]) ∧ Rdr w' b t tl s p d e x ∧ w.grownBy w' (some b) := by
  have c3 := h.c3
  have c4 := (show Rdr (w.setCell ⟨b, 3, none⟩ (.int .i64 e)) b t tl s p d e bl from ⟨by have := h.blk.set 3 (.int .i64 e); rwa [List.setIfInBounds_toArray] at this, h.le, h.len, h.dle⟩).c4
  have z3 := h.blk.frozen 3
  have z4 := (h.blk.set 3 (.int .i64 e)).frozen 4
  have H := hide h
  clear h
  go_enter Tryd.func98, Tryd.ntmps98
  go_wp2
  refine bodyPost_end (res0 rfl _ _) rfl ?_
  exact ⟨rfl, (unhide H).bad e x, (grown_setCell w ⟨b, 3, none⟩ _).trans (grown_setCell _ ⟨b, 4, none⟩ _)⟩
set_option maxRecDepth 20000 in
set_option maxHeartbeats 800000 in
theorem fail_not (e x : Int) {w : World} {b : Nat} {t : TypeId} {tl : List Value} {s : ByteArray} {p d : Nat} {f bl : Int} (h : Rdr w b t tl s p d f bl) (hf : f ≠ 0) : Calls Tryd.prog 98 #[.pointer (some ⟨b, 0, none⟩), .int .i64 e, .int .i64 x] w fun en w' => en = .returned (.tuple #[]) ∧ w' = w := by
  have c3 := h.c3
  have hf' : (f == 0) = false := by simpa using hf
  clear h hf
  go_enter Tryd.func98, Tryd.ntmps98
  go_wp2
  refine bodyPost_end (res0 rfl _ _) rfl ?_
  exact ⟨rfl, rfl⟩

set_option maxRecDepth 20000 in
set_option maxHeartbeats 800000 in
theorem enter_yes {w : World} {b : Nat} {t : TypeId} {tl : List Value} {s : ByteArray} {p d : Nat} {f bl : Int} (d1 : Nat) (hd1 : d1 = d + 1) (h : Rdr w b t tl s p d f bl) (hd : d < 40) : Calls Tryd.prog 101 #[.pointer (some ⟨b, 0, none⟩)] w fun e w' => e = .returned (.bool true) ∧ w' = w.setCell ⟨b, 0, none⟩ (.int .i64 (d1 : Int)) := by
  have c0 := h.c0
  have z0 := h.blk.frozen 0
  have hd' : ((d : Int) == 40) = false := by rw [beq_eq_false_iff_ne]; omega
  have hw : IntKind.i64.wrap ((d : Int) + 1) = (d1 : Int) := by rw [IntKind.wrap_i64]; omega
  clear h hd hd1
  go_enter Tryd.func101, Tryd.ntmps101
  go_wp2
  go_ret
  exact ⟨rfl, rfl⟩
set_option maxRecDepth 20000 in
set_option maxHeartbeats 800000 in
theorem enter_no {w : World} {b : Nat} {t : TypeId} {tl : List Value} {s : ByteArray} {p : Nat} {f bl : Int} (h : Rdr w b t tl s p 40 f bl) : Calls Tryd.prog 101 #[.pointer (some ⟨b, 0, none⟩)] w fun e w' => e = .returned (.bool false) ∧ w' = w := by
  have c0 := h.c0
  clear h
  go_enter Tryd.func101, Tryd.ntmps101
  go_wp2
  go_ret
  exact ⟨rfl, rfl⟩
set_option maxRecDepth 20000 in
set_option maxHeartbeats 800000 in
theorem leave_any {w : World} {b : Nat} {t : TypeId} {tl : List Value} {s : ByteArray} {p d : Nat} {f bl : Int} (d1 : Nat) (hd1 : d1 = d + 1) (h : Rdr w b t tl s p d1 f bl) : Calls Tryd.prog 103 #[.pointer (some ⟨b, 0, none⟩)] w fun e w' => e = .returned (.tuple #[]) ∧ w' = w.setCell ⟨b, 0, none⟩ (.int .i64 (d : Int)) := by
  have c0 := h.c0
  have z0 := h.blk.frozen 0
  have hd := h.dle
  have hw : IntKind.i64.wrap ((d1 : Int) - 1) = (d : Int) := by rw [IntKind.wrap_i64]; omega
  clear h hd hd1
  go_enter Tryd.func103, Tryd.ntmps103
  go_wp2
  refine bodyPost_end (res0 rfl _ _) rfl ?_
  exact ⟨rfl, rfl⟩

theorem single_any (wh : Nat) (hw : wh ≤ 4) (w : World) : Calls Tryd.prog 95 #[.int .i64 (wh : Int)] w fun e w' => e = .returned (.bool (!quot wh)) ∧ w' = w := by
  have hc : wh = 0 ∨ wh = 1 ∨ wh = 2 ∨ wh = 3 ∨ wh = 4 := by omega
  rcases hc with rfl | rfl | rfl | rfl | rfl
  all_goals
    go_enter Tryd.func95, Tryd.ntmps95
    go_wp2
    go_ret
    exact ⟨rfl, rfl⟩
theorem brace_any (wh : Nat) (hw : wh ≤ 4) (w : World) : Calls Tryd.prog 97 #[.int .i64 (wh : Int)] w fun e w' => e = .returned (.int .i64 ((if quot wh then 3 else 2 : Nat) : Int)) ∧ w' = w := by
  have hc : wh = 0 ∨ wh = 1 ∨ wh = 2 ∨ wh = 3 ∨ wh = 4 := by omega
  rcases hc with rfl | rfl | rfl | rfl | rfl
  all_goals
    go_enter Tryd.func97, Tryd.ntmps97
    go_wp2
    go_ret
    exact ⟨rfl, rfl⟩

theorem Rdr.drewN {w : World} {b : Nat} {t : TypeId} {tl : List Value} {s : ByteArray} {p d : Nat} {f bl : Int} (h : Rdr w b t tl s p d f bl) (k : Nat) : Rdr (w.drewN k) b t tl s p d f bl := h.kept (grown_drewN w k)
theorem hasP_one (c x : UInt8) (r : List UInt8) : Lib.hasPrefix (c :: r) [x] = (c == x) := by
  show (x == c && ([] : List UInt8).isPrefixOf r) = _
  by_cases h : c = x
  · subst h; simp
  · rw [show (c == x) = false from beq_false_of_ne h, show (x == c) = false from beq_false_of_ne (fun e => h e.symm)]; rfl
theorem hasP_two (c x y : UInt8) (r : List UInt8) : Lib.hasPrefix (c :: r) [x, y] = ((c == x) && (r.head? == some y)) := by
  show (x == c && [y].isPrefixOf r) = _
  have e : (x == c) = (c == x) := by
    by_cases h : c = x
    · subst h; rfl
    · rw [show (c == x) = false from beq_false_of_ne h, show (x == c) = false from beq_false_of_ne (fun e => h e.symm)]
  rw [e]
  cases r with
  | nil => simp
  | cons z r =>
    show (c == x && (y == z && true)) = (c == x && (some z == some y))
    by_cases h : z = y
    · subst h; simp
    · rw [show (y == z) = false from beq_false_of_ne (fun e => h e.symm), show (some z == some y) = false from beq_false_of_ne (fun e => h (by simpa using e))]; rfl
theorem index_dw (r : List UInt8) (c : UInt8) : (Lib.indexByte r c = -1 ∧ r.dropWhile (fun x => x != c) = []) ∨ (∃ k : Nat, Lib.indexByte r c = (k : Int) ∧ k < r.length ∧ r.dropWhile (fun x => x != c) = c :: r.drop (k + 1)) := by
  induction r with
  | nil => exact .inl ⟨rfl, rfl⟩
  | cons b l ih =>
    unfold Lib.indexByte
    by_cases hb : b = c
    · subst hb
      right
      refine ⟨0, by simp, by simp, ?_⟩
      simp
    · have hb' : (b == c) = false := beq_false_of_ne hb
      have hd : (b :: l).dropWhile (fun x => x != c) = l.dropWhile (fun x => x != c) := by
        rw [List.dropWhile_cons, if_pos (by simpa using hb)]
      rw [hb', hd]
      rcases ih with ⟨h1, h2⟩ | ⟨k, h1, h2, h3⟩
      · left
        rw [h1]
        exact ⟨rfl, h2⟩
      · right
        refine ⟨k + 1, ?_, by simp; omega, by rw [h3]; rfl⟩
        rw [h1]
        have hk : ((k : Int) == -1) = false := by rw [beq_eq_false_iff_ne]; omega
        rw [hk]
        simp

end Go.Proofs.YtodcfgbcigjjfaaDoor

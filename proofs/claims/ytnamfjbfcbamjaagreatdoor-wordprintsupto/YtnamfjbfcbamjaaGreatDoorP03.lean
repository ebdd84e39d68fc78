/-
  Things of words, plainly: where one ends, or what is wrong; and the reader's small methods.
  The reader's state, and its small methods.
  Rows of bytes that a call owns; 'unescaped'.
-/
import Derived.Test.YtnamfjbfcbamjaaGreatDoorP01
import Derived.Test.YtnamfjbfcbamjaaGreatDoorP02
import Derived.Deep.RegionHeld3
import Derived.Lib.BufferRead
import Derived.Laws.IdiomStrings
import Derived.Laws.AppendOwnNone
import Derived.Lib.AppendStr
namespace Go.Proofs.YtnamfjbfcbamjaaGreatDoor
open Go.RowKit
def quot (wh : Nat) : Bool := wh == 1 || wh == 3
inductive Rs where
  | ok (r : List UInt8)
  | err (e : Int) (r : List UInt8)
mutual
def thg : Nat → List UInt8 → Nat → Nat → Rs
  | 0, l, _, _ => .ok l
  | _ + 1, [], _, _ => .ok []
  | f + 1, c :: r, wh, d =>
    if c = 92 then .ok (r.drop 1)
    else if c = 34 then (if wh = 1 then .ok r else cls f r (c :: r) 34 1 d)
    else if c = 39 then (if quot wh then .ok r else match r.dropWhile (fun x => x != 39) with
      | [] => .err 11 (c :: r)
      | _ :: r' => .ok r')
    else if c = 36 then (if r.head? = some 123 then cls f (r.drop 1) (c :: r) 125 (if quot wh then 3 else 2) d
      else if r.head? = some 40 then cls f (r.drop 1) r 41 4 d
      else .ok r)
    else if c = 40 then (if wh = 4 then cls f r (c :: r) 41 4 d else .ok r)
    else if c = 96 then .err 10 (c :: r)
    else .ok r
def cls : Nat → List UInt8 → List UInt8 → UInt8 → Nat → Nat → Rs
  | 0, l, _, _, _, _ => .ok l
  | f + 1, l, fr, e, wh, d => if 40 ≤ d then .err 3 fr else lop f l fr e wh (d + 1)
def lop : Nat → List UInt8 → List UInt8 → UInt8 → Nat → Nat → Rs
  | 0, l, _, _, _, _ => .ok l
  | _ + 1, [], fr, _, _, _ => .err 11 fr
  | f + 1, c :: r, fr, e, wh, d => if c = e then .ok r else match thg f (c :: r) wh d with
    | .err x b => .err x b
    | .ok l' => lop f l' fr e wh d
end
theorem thg_succ (f : Nat) (c : UInt8) (r : List UInt8) (wh d : Nat) : thg (f + 1) (c :: r) wh d =
    if c = 92 then .ok (r.drop 1)
    else if c = 34 then (if wh = 1 then .ok r else cls f r (c :: r) 34 1 d)
    else if c = 39 then (if quot wh then .ok r else match r.dropWhile (fun x => x != 39) with
      | [] => .err 11 (c :: r)
      | _ :: r' => .ok r')
    else if c = 36 then (if r.head? = some 123 then cls f (r.drop 1) (c :: r) 125 (if quot wh then 3 else 2) d
      else if r.head? = some 40 then cls f (r.drop 1) r 41 4 d
      else .ok r)
    else if c = 40 then (if wh = 4 then cls f r (c :: r) 41 4 d else .ok r)
    else if c = 96 then .err 10 (c :: r)
    else .ok r := by rw [thg]
theorem cls_succ (f : Nat) (l fr : List UInt8) (e : UInt8) (wh d : Nat) : cls (f + 1) l fr e wh d = if 40 ≤ d then .err 3 fr else lop f l fr e wh (d + 1) := by rw [cls]
theorem lop_nil (f : Nat) (fr : List UInt8) (e : UInt8) (wh d : Nat) : lop (f + 1) [] fr e wh d = .err 11 fr := by rw [lop]
theorem lop_succ (f : Nat) (c : UInt8) (r fr : List UInt8) (e : UInt8) (wh d : Nat) : lop (f + 1) (c :: r) fr e wh d = if c = e then .ok r else match thg f (c :: r) wh d with
    | .err x b => .err x b
    | .ok l' => lop f l' fr e wh d := by rw [lop]
theorem head_cons {r : List UInt8} {c : UInt8} (h : r.head? = some c) : r = c :: r.drop 1 := by
  cases r with
  | nil => cases h
  | cons x r => simp at h; subst h; rfl
theorem dropWhile_len (p : UInt8 → Bool) (l : List UInt8) : (l.dropWhile p).length ≤ l.length := (List.dropWhile_sublist p).length_le
def Fit (n m : Nat) : Rs → Prop
  | .ok r => r.length ≤ n
  | .err _ b => b.length ≤ m
theorem fit_ite {n m : Nat} {c : Prop} [Decidable c] {x y : Rs} (hx : Fit n m x) (hy : Fit n m y) : Fit n m (if c then x else y) := by
  split
  · exact hx
  · exact hy
theorem Fit.mono {n m n' m' : Nat} {x : Rs} (h : Fit n m x) (hn : n ≤ n') (hm : m ≤ m') : Fit n' m' x := by
  cases x with
  | ok r => exact Nat.le_trans h hn
  | err e b => exact Nat.le_trans h hm
theorem thg_fit {f : Nat} (hC : ∀ l fr e wh d, l.length ≤ fr.length → Fit l.length fr.length (cls f l fr e wh d)) (c : UInt8) (r : List UInt8) (wh d : Nat) : Fit r.length (r.length + 1) (thg (f + 1) (c :: r) wh d) := by
  rw [thg_succ]
  have hok : Fit r.length (r.length + 1) (.ok r) := Nat.le_refl _
  refine fit_ite (show (r.drop 1).length ≤ r.length by simp) (fit_ite (fit_ite hok ?_) (fit_ite (fit_ite hok ?_) (fit_ite (fit_ite ?_ (fit_ite ?_ hok)) (fit_ite (fit_ite ?_ hok) (fit_ite ?_ hok)))))
  · exact (hC r (c :: r) 34 1 d (by simp)).mono (Nat.le_refl _) (Nat.le_refl _)
  · have := dropWhile_len (fun x => x != 39) r
    split
    · exact Nat.le_refl _
    · next x r' hx =>
      rw [hx] at this
      simp at this
      show r'.length ≤ r.length
      omega
  · exact (hC (r.drop 1) (c :: r) 125 _ d (by simp; omega)).mono (by simp) (Nat.le_refl _)
  · exact (hC (r.drop 1) r 41 4 d (by simp)).mono (by simp) (by omega)
  · exact (hC r (c :: r) 41 4 d (by simp)).mono (Nat.le_refl _) (Nat.le_refl _)
  · exact Nat.le_refl _
theorem c_fit : ∀ f : Nat, (∀ l fr e wh d, l.length ≤ fr.length → Fit l.length fr.length (cls f l fr e wh d)) ∧ (∀ l fr e wh d, l.length ≤ fr.length → Fit l.length fr.length (lop f l fr e wh d)) ∧ (∀ c r wh d, Fit (r.length + 1) (r.length + 1) (thg f (c :: r) wh d))
  | 0 => ⟨fun l fr e wh d _ => by rw [cls]; exact Nat.le_refl _, fun l fr e wh d _ => by rw [lop]; exact Nat.le_refl _, fun c r wh d => by rw [thg]; exact Nat.le_refl _⟩
  | f + 1 => by
    obtain ⟨iC, iL, iT⟩ := c_fit f
    refine ⟨fun l fr e wh d hl => ?_, fun l fr e wh d hl => ?_, fun c r wh d => (thg_fit iC c r wh d).mono (by omega) (Nat.le_refl _)⟩
    · rw [cls_succ]
      exact fit_ite (Nat.le_refl _) (iL l fr e wh (d + 1) hl)
    · cases l with
      | nil => rw [lop_nil]; exact Nat.le_refl _
      | cons c r =>
        rw [lop_succ]
        refine fit_ite (show r.length ≤ r.length + 1 by omega) ?_
        have h1 := iT c r wh d
        simp at hl
        cases hq : thg f (c :: r) wh d with
        | ok r' =>
          rw [hq] at h1
          have h1' : r'.length ≤ r.length + 1 := h1
          exact (iL r' fr e wh d (by omega)).mono h1' (Nat.le_refl _)
        | err x b =>
          rw [hq] at h1
          have h1' : b.length ≤ r.length + 1 := h1
          show b.length ≤ fr.length
          omega
theorem thg_len (f : Nat) (c : UInt8) (r : List UInt8) (wh d : Nat) : Fit r.length (r.length + 1) (thg (f + 1) (c :: r) wh d) := thg_fit (c_fit f).1 c r wh d
end Go.Proofs.YtnamfjbfcbamjaaGreatDoor
namespace Go.Proofs.YtnamfjbfcbamjaaGreatDoor
open Go.RowKit
structure Rdr (w : World) (b : Nat) (t : TypeId) (tl : List Value) (s : ByteArray) (p d : Nat) (f bl : Int) : Prop where
  blk : Blk w b t (.int .i64 (d : Int) :: .string s :: .int .i64 (p : Int) :: .int .i64 f :: .int .i64 bl :: tl).toArray
  le : p ≤ s.size
  len : s.size ≤ 100000
  dle : d ≤ 40
theorem Rdr.kept {w' : World} {w : World} {b : Nat} {t : TypeId} {tl : List Value} {s : ByteArray} {p d : Nat} {f bl : Int} (h : Rdr w b t tl s p d f bl) (hg : w.grownBy w' none) : Rdr w' b t tl s p d f bl := ⟨h.blk.kept hg (by simp), h.le, h.len, h.dle⟩
theorem Rdr.c0 {w : World} {b : Nat} {t : TypeId} {tl : List Value} {s : ByteArray} {p d : Nat} {f bl : Int} (h : Rdr w b t tl s p d f bl) : w.cell? ⟨b, 0, none⟩ = some (.int .i64 (d : Int)) := h.blk.cell 0 (by simp)
theorem Rdr.c1 {w : World} {b : Nat} {t : TypeId} {tl : List Value} {s : ByteArray} {p d : Nat} {f bl : Int} (h : Rdr w b t tl s p d f bl) : w.cell? ⟨b, 1, none⟩ = some (.string s) := h.blk.cell 1 (by simp)
theorem Rdr.c2 {w : World} {b : Nat} {t : TypeId} {tl : List Value} {s : ByteArray} {p d : Nat} {f bl : Int} (h : Rdr w b t tl s p d f bl) : w.cell? ⟨b, 2, none⟩ = some (.int .i64 (p : Int)) := h.blk.cell 2 (by simp)
theorem Rdr.c3 {w : World} {b : Nat} {t : TypeId} {tl : List Value} {s : ByteArray} {p d : Nat} {f bl : Int} (h : Rdr w b t tl s p d f bl) : w.cell? ⟨b, 3, none⟩ = some (.int .i64 f) := h.blk.cell 3 (by simp)
theorem Rdr.c4 {w : World} {b : Nat} {t : TypeId} {tl : List Value} {s : ByteArray} {p d : Nat} {f bl : Int} (h : Rdr w b t tl s p d f bl) : w.cell? ⟨b, 4, none⟩ = some (.int .i64 bl) := h.blk.cell 4 (by simp)
theorem Rdr.to {w : World} {b : Nat} {t : TypeId} {tl : List Value} {s : ByteArray} {p d : Nat} {f bl : Int} (h : Rdr w b t tl s p d f bl) (q : Nat) (hq : q ≤ s.size) : Rdr (w.setCell ⟨b, 2, none⟩ (.int .i64 (q : Int))) b t tl s q d f bl := by
  refine ⟨?_, hq, h.len, h.dle⟩
  have := h.blk.set 2 (.int .i64 (q : Int))
  rwa [List.setIfInBounds_toArray] at this
theorem Rdr.deep {w : World} {b : Nat} {t : TypeId} {tl : List Value} {s : ByteArray} {p d : Nat} {f bl : Int} (h : Rdr w b t tl s p d f bl) (d' : Nat) (hd : d' ≤ 40) : Rdr (w.setCell ⟨b, 0, none⟩ (.int .i64 (d' : Int))) b t tl s p d' f bl := by
  refine ⟨?_, h.le, h.len, hd⟩
  have := h.blk.set 0 (.int .i64 (d' : Int))
  rwa [List.setIfInBounds_toArray] at this
theorem Rdr.bad {w : World} {b : Nat} {t : TypeId} {tl : List Value} {s : ByteArray} {p d : Nat} {f bl : Int} (h : Rdr w b t tl s p d f bl) (e x : Int) : Rdr ((w.setCell ⟨b, 3, none⟩ (.int .i64 e)).setCell ⟨b, 4, none⟩ (.int .i64 x)) b t tl s p d e x := by
  refine ⟨?_, h.le, h.len, h.dle⟩
  have := (h.blk.set 3 (.int .i64 e)).set 4 (.int .i64 x)
  rwa [List.setIfInBounds_toArray, List.setIfInBounds_toArray] at this
def atOf (b : Nat) (w : World) : Nat := (intOf ((w.cell? ⟨b, 2, none⟩).getD (.int .i64 0))).toNat
theorem Rdr.at {w : World} {b : Nat} {t : TypeId} {tl : List Value} {s : ByteArray} {p d : Nat} {f bl : Int} (h : Rdr w b t tl s p d f bl) : atOf b w = p := by
  unfold atOf
  rw [h.c2]
  simp [intOf]
def fltOf (b : Nat) (w : World) : Int := intOf ((w.cell? ⟨b, 3, none⟩).getD (.int .i64 0))
theorem Rdr.flt {w : World} {b : Nat} {t : TypeId} {tl : List Value} {s : ByteArray} {p d : Nat} {f bl : Int} (h : Rdr w b t tl s p d f bl) : fltOf b w = f := by
  unfold fltOf
  rw [h.c3]
  simp [intOf]
def msr (s : ByteArray) (b : Nat) (w : World) : Nat := if fltOf b w = 0 then s.size - atOf b w + 1 else 0
theorem Rdr.msr0 {w : World} {b : Nat} {t : TypeId} {tl : List Value} {s : ByteArray} {p d : Nat} {bl : Int} (h : Rdr w b t tl s p d 0 bl) : msr s b w = s.size - p + 1 := by
  unfold msr
  rw [h.flt, if_pos rfl, h.at]
theorem Rdr.msr1 {w : World} {b : Nat} {t : TypeId} {tl : List Value} {s : ByteArray} {p d : Nat} {f bl : Int} (h : Rdr w b t tl s p d f bl) (hf : f ≠ 0) : msr s b w = 0 := by
  unfold msr
  rw [h.flt, if_neg hf]
def moreB (s : ByteArray) (p : Nat) (f : Int) : Bool := (f == 0) && decide (p < s.size)
set_option maxRecDepth 20000 in
set_option maxHeartbeats 800000 in
theorem more_any {w : World} {b : Nat} {t : TypeId} {tl : List Value} {s : ByteArray} {p d : Nat} {f bl : Int} (h : Rdr w b t tl s p d f bl) : Calls Tryz.prog 127 #[.pointer (some ⟨b, 0, none⟩)] w fun e w' => e = .returned (.bool (moreB s p f)) ∧ ∃ k, w' = w.drewN k := by
  have c1 := h.c1
  have c2 := h.c2
  have c3 := h.c3
  have hlen := h.len
  clear h
  by_cases hf : f = 0
  · subst hf
    by_cases hp : p < s.size
    · have hp' : (p : Int) < (s.size : Int) := by omega
      have hm : moreB s p 0 = true := by unfold moreB; rw [decide_eq_true hp]; rfl
      rw [hm]
      clear hm hp
      go_enter Tryz.func127, Tryz.ntmps127
      go_wp2_with fail
      go_quiet (fail)
      go_wp2
      go_ret
      exact ⟨rfl, _, rfl⟩
    · have hp' : ¬ (p : Int) < (s.size : Int) := by omega
      have hm : moreB s p 0 = false := by unfold moreB; rw [decide_eq_false hp]; rfl
      rw [hm]
      clear hm
      have HP := hide hp
      clear hp
      go_enter Tryz.func127, Tryz.ntmps127
      go_wp2_with fail
      go_quiet (fail)
      go_wp2
      go_ret
      exact ⟨ret_bool (decide_eq_false (unhide HP)), _, rfl⟩
  · have hf' : (f == 0) = false := by simpa using hf
    have hm : moreB s p f = false := by unfold moreB; rw [hf']; rfl
    rw [hm]
    clear hm hf'
    go_enter Tryz.func127, Tryz.ntmps127
    go_wp2_with fail
    go_quiet (fail)
    go_wp2
    go_ret
    exact ⟨rfl, _, rfl⟩
set_option maxRecDepth 20000 in
set_option maxHeartbeats 800000 in
theorem sees_any (q : ByteArray) {w : World} {b : Nat} {t : TypeId} {tl : List Value} {s : ByteArray} {p d : Nat} {f bl : Int} (h : Rdr w b t tl s p d f bl) : Calls Tryz.prog 117 #[.pointer (some ⟨b, 0, none⟩), .string q] w fun e w' => e = .returned (.bool (Lib.hasPrefix (s.data.toList.drop p) q.data.toList)) ∧ ∃ k, w' = w.drewN k := by
  have c1 := h.c1
  have c2 := h.c2
  have hle := h.le
  have hlen := h.len
  clear h
  have HP : Hid (∀ w, Calls Tryz.prog 123 #[.string (s.extract p s.size), .string q] w fun e w' => e = .returned (.bool (Lib.hasPrefix (s.data.toList.drop p) q.data.toList)) ∧ w' = w) := hide (fun w => by
    have := Tryz.strings_HasPrefix (s.extract p s.size) q w
    rw [extract_end, BA_list] at this
    rw [extract_end]
    exact this)
  go_enter Tryz.func117, Tryz.ntmps117
  go_wp2_with fail
  go_quiet ((go_at_call 123; exact Calls.quiet_of_same (unhide HP _)))
  go_wp2
  go_ret
  exact ⟨rfl, _, rfl⟩
set_option maxRecDepth 20000 in
set_option maxHeartbeats 800000 in
theorem fail_any (e x : Int) {w : World} {b : Nat} {t : TypeId} {tl : List Value} {s : ByteArray} {p d : Nat} {bl : Int} (h : Rdr w b t tl s p d 0 bl) : Calls Tryz.prog 122 #[.pointer (some ⟨b, 0, none⟩), .int .i64 e, .int .i64 x] w fun en w' => en = .returned (.tuple #[]) ∧ Rdr w' b t tl s p d e x ∧ w.grownBy w' (some b) := by
  have c3 := h.c3
  have c4 := (show Rdr (w.setCell ⟨b, 3, none⟩ (.int .i64 e)) b t tl s p d e bl from ⟨by have := h.blk.set 3 (.int .i64 e); rwa [List.setIfInBounds_toArray] at this, h.le, h.len, h.dle⟩).c4
  have z3 := h.blk.frozen 3
  have z4 := (h.blk.set 3 (.int .i64 e)).frozen 4
  have H := hide h
  clear h
  go_enter Tryz.func122, Tryz.ntmps122
  go_wp2
  refine bodyPost_end (res0 rfl _ _) rfl ?_
  exact ⟨rfl, (unhide H).bad e x, (grown_setCell w ⟨b, 3, none⟩ _).trans (grown_setCell _ ⟨b, 4, none⟩ _)⟩
set_option maxRecDepth 20000 in
set_option maxHeartbeats 800000 in
theorem fail_not (e x : Int) {w : World} {b : Nat} {t : TypeId} {tl : List Value} {s : ByteArray} {p d : Nat} {f bl : Int} (h : Rdr w b t tl s p d f bl) (hf : f ≠ 0) : Calls Tryz.prog 122 #[.pointer (some ⟨b, 0, none⟩), .int .i64 e, .int .i64 x] w fun en w' => en = .returned (.tuple #[]) ∧ w' = w := by
  have c3 := h.c3
  have hf' : (f == 0) = false := by simpa using hf
  clear h hf
  go_enter Tryz.func122, Tryz.ntmps122
  go_wp2
  refine bodyPost_end (res0 rfl _ _) rfl ?_
  exact ⟨rfl, rfl⟩
set_option maxRecDepth 20000 in
set_option maxHeartbeats 800000 in
theorem enter_yes {w : World} {b : Nat} {t : TypeId} {tl : List Value} {s : ByteArray} {p d : Nat} {f bl : Int} (d1 : Nat) (hd1 : d1 = d + 1) (h : Rdr w b t tl s p d f bl) (hd : d < 40) : Calls Tryz.prog 126 #[.pointer (some ⟨b, 0, none⟩)] w fun e w' => e = .returned (.bool true) ∧ w' = w.setCell ⟨b, 0, none⟩ (.int .i64 (d1 : Int)) := by
  have c0 := h.c0
  have z0 := h.blk.frozen 0
  have hd' : ((d : Int) == 40) = false := by rw [beq_eq_false_iff_ne]; omega
  have hw : IntKind.i64.wrap ((d : Int) + 1) = (d1 : Int) := by rw [IntKind.wrap_i64]; omega
  clear h hd hd1
  go_enter Tryz.func126, Tryz.ntmps126
  go_wp2
  go_ret
  exact ⟨rfl, rfl⟩
set_option maxRecDepth 20000 in
set_option maxHeartbeats 800000 in
theorem enter_no {w : World} {b : Nat} {t : TypeId} {tl : List Value} {s : ByteArray} {p : Nat} {f bl : Int} (h : Rdr w b t tl s p 40 f bl) : Calls Tryz.prog 126 #[.pointer (some ⟨b, 0, none⟩)] w fun e w' => e = .returned (.bool false) ∧ w' = w := by
  have c0 := h.c0
  clear h
  go_enter Tryz.func126, Tryz.ntmps126
  go_wp2
  go_ret
  exact ⟨rfl, rfl⟩
set_option maxRecDepth 20000 in
set_option maxHeartbeats 800000 in
theorem leave_any {w : World} {b : Nat} {t : TypeId} {tl : List Value} {s : ByteArray} {p d : Nat} {f bl : Int} (d1 : Nat) (hd1 : d1 = d + 1) (h : Rdr w b t tl s p d1 f bl) : Calls Tryz.prog 128 #[.pointer (some ⟨b, 0, none⟩)] w fun e w' => e = .returned (.tuple #[]) ∧ w' = w.setCell ⟨b, 0, none⟩ (.int .i64 (d : Int)) := by
  have c0 := h.c0
  have z0 := h.blk.frozen 0
  have hd := h.dle
  have hw : IntKind.i64.wrap ((d1 : Int) - 1) = (d : Int) := by rw [IntKind.wrap_i64]; omega
  clear h hd hd1
  go_enter Tryz.func128, Tryz.ntmps128
  go_wp2
  refine bodyPost_end (res0 rfl _ _) rfl ?_
  exact ⟨rfl, rfl⟩
theorem single_any (wh : Nat) (hw : wh ≤ 4) (w : World) : Calls Tryz.prog 119 #[.int .i64 (wh : Int)] w fun e w' => e = .returned (.bool (!quot wh)) ∧ w' = w := by
  have hc : wh = 0 ∨ wh = 1 ∨ wh = 2 ∨ wh = 3 ∨ wh = 4 := by omega
  rcases hc with rfl | rfl | rfl | rfl | rfl
  all_goals
    go_enter Tryz.func119, Tryz.ntmps119
    go_wp2
    go_ret
    exact ⟨rfl, rfl⟩
theorem brace_any (wh : Nat) (hw : wh ≤ 4) (w : World) : Calls Tryz.prog 121 #[.int .i64 (wh : Int)] w fun e w' => e = .returned (.int .i64 ((if quot wh then 3 else 2 : Nat) : Int)) ∧ w' = w := by
  have hc : wh = 0 ∨ wh = 1 ∨ wh = 2 ∨ wh = 3 ∨ wh = 4 := by omega
  rcases hc with rfl | rfl | rfl | rfl | rfl
  all_goals
    go_enter Tryz.func121, Tryz.ntmps121
    go_wp2
    go_ret
    exact ⟨rfl, rfl⟩
theorem Rdr.drewN {w : World} {b : Nat} {t : TypeId} {tl : List Value} {s : ByteArray} {p d : Nat} {f bl : Int} (h : Rdr w b t tl s p d f bl) (k : Nat) : Rdr (w.drewN k) b t tl s p d f bl := h.kept (grown_drewN w k)
theorem hasP_one (c x : UInt8) (r : List UInt8) : Lib.hasPrefix (c :: r) [x] = (c == x) := by
  show (x == c && ([] : List UInt8).isPrefixOf r) = _
  by_cases h : c = x
  · subst h; simp
  · rw [show (c == x) = false from beq_false_of_ne h, show (x == c) = false from beq_false_of_ne (fun e => h e.symm)]; rfl
theorem hasP_two (c x y : UInt8) (r : List UInt8) : Lib.hasPrefix (c :: r) [x, y] = ((c == x) && (r.head? == some y)) := by
  show (x == c && [y].isPrefixOf r) = _
  have e : (x == c) = (c == x) := by
    by_cases h : c = x
    · subst h; rfl
    · rw [show (c == x) = false from beq_false_of_ne h, show (x == c) = false from beq_false_of_ne (fun e => h e.symm)]
  rw [e]
  cases r with
  | nil => simp
  | cons z r =>
    show (c == x && (y == z && true)) = (c == x && (some z == some y))
    by_cases h : z = y
    · subst h; simp
    · rw [show (y == z) = false from beq_false_of_ne (fun e => h e.symm), show (some z == some y) = false from beq_false_of_ne (fun e => h (by simpa using e))]; rfl
theorem index_dw (r : List UInt8) (c : UInt8) : (Lib.indexByte r c = -1 ∧ r.dropWhile (fun x => x != c) = []) ∨ (∃ k : Nat, Lib.indexByte r c = (k : Int) ∧ k < r.length ∧ r.dropWhile (fun x => x != c) = c :: r.drop (k + 1)) := by
  induction r with
  | nil => exact .inl ⟨rfl, rfl⟩
  | cons b l ih =>
    unfold Lib.indexByte
    by_cases hb : b = c
    · subst hb
      right
      refine ⟨0, by simp, by simp, ?_⟩
      simp
    · have hb' : (b == c) = false := beq_false_of_ne hb
      have hd : (b :: l).dropWhile (fun x => x != c) = l.dropWhile (fun x => x != c) := by
        rw [List.dropWhile_cons, if_pos (by simpa using hb)]
      rw [hb', hd]
      rcases ih with ⟨h1, h2⟩ | ⟨k, h1, h2, h3⟩
      · left
        rw [h1]
        exact ⟨rfl, h2⟩
      · right
        refine ⟨k + 1, ?_, by simp; omega, by rw [h3]; rfl⟩
        rw [h1]
        have hk : ((k : Int) == -1) = false := by rw [beq_eq_false_iff_ne]; omega
        rw [hk]
        simp
end Go.Proofs.YtnamfjbfcbamjaaGreatDoor
namespace Go.Proofs.YtnamfjbfcbamjaaGreatDoor
open Go.RowKit
theorem und_bytes : Tryz.prog.underlying 49 = some (.slice 5) := by kernel_rfl
theorem und_byte : Tryz.prog.underlying 5 = some (.int .u8) := by kernel_rfl
theorem und_str : Tryz.prog.underlying 9 = some .string := by kernel_rfl
theorem info_byte : (Tryz.prog.info? 5).map (fun i => (i.zero, i.size, i.bytes)) = some (some (.int .u8 0), 1, 1) := by kernel_rfl
theorem info_of {t : TypeId} {z : Option Value} {a c : Nat} (h : (Tryz.prog.info? t).map (fun i => (i.zero, i.size, i.bytes)) = some (z, a, c)) : ∃ i, Tryz.prog.info? t = some i ∧ i.zero = z ∧ i.size = a ∧ i.bytes = c := by
  cases hi : Tryz.prog.info? t with
  | none => rw [hi] at h; cases h
  | some i =>
    rw [hi] at h
    simp at h
    exact ⟨i, rfl, h.1, h.2.1, h.2.2⟩
def OwnB (w : World) (base : Nat) (v : Value) (l : List UInt8) : Prop := w.ownsRow base 5 1 v l.length (Lib.byteCells l)
theorem ownB_nil (w : World) (base : Nat) : OwnB w base (.slice none 0 0) [] := World.ownsRow_nil _ _ _ _
theorem OwnB.alloc {w : World} {base : Nat} {v : Value} {l : List UInt8} (h : OwnB w base v l) (o : Obj) : OwnB (w.alloc o) base v l := World.ownsRow.alloc h o
theorem byteCells_append (a b : List UInt8) : Lib.byteCells (a ++ b) = Lib.byteCells a ++ Lib.byteCells b := by simp [Lib.byteCells]
theorem add_at (g j : Nat) : ((⟨g, 0, none⟩ : Addr).add j) = ⟨g, j, none⟩ := by
  by_cases h : j = 0
  · subst h; simp [Addr.add]
  · simp [Addr.add, h]
theorem OwnB.shape {w : World} {base : Nat} {v : Value} {l : List UInt8} (h : OwnB w base v l) (hl : l ≠ []) :
    ∃ g cap, v = .slice (some ⟨g, 0, none⟩) l.length cap ∧ base ≤ g ∧ g < w.heap.size ∧ ∀ j (hj : j < l.length), w.cell? ⟨g, j, none⟩ = some (.int .u8 (l[j].toNat : Int)) := by
  obtain ⟨_, ⟨_, h0⟩ | ⟨g, cap, cur, rfl, hb, hg, _, _, _, htk⟩⟩ := h
  · exact absurd (List.eq_nil_of_length_eq_zero h0) hl
  · refine ⟨g, cap, rfl, hb, ?_, fun j hj => ?_⟩
    · rcases Nat.lt_or_ge g w.heap.size with h' | h'
      · exact h'
      · rw [Array.getElem?_eq_none h'] at hg; cases hg
    · have := Lib.bytes_of_row hg (by simpa using htk) j hj
      rwa [add_at] at this
theorem OwnB.text {w : World} {base : Nat} {v : Value} {l : List UInt8} (h : OwnB w base v l) : (convert 49 9 v).run Tryz.prog w = .ok (.string (BA l)) w := by
  by_cases hl : l = []
  · subst hl
    obtain ⟨_, ⟨rfl, _⟩ | ⟨g, cap, cur, rfl, _⟩⟩ := h
    · exact Lib.run_convert_nil_bytes w 49 9 5 0 und_bytes und_byte und_str
    · exact run_convert_bytes_back w 49 9 5 ⟨g, 0, none⟩ cap [] und_bytes und_byte und_str (fun j hj => absurd hj (by simp))
  · obtain ⟨g, cap, rfl, _, _, hc⟩ := h.shape hl
    exact run_convert_bytes_back w 49 9 5 ⟨g, 0, none⟩ cap l und_bytes und_byte und_str (fun j hj => by rw [add_at]; exact hc j hj)
theorem own_push {w1 : World} {base n : Nat} {v' : Value} {l c : List UInt8} {zs : List Value} (hn : n = l.length + c.length) (hz : zs = Lib.byteCells c) (h : w1.ownsRow base 5 1 v' n (Lib.byteCells l ++ zs)) : OwnB w1 base v' (l ++ c) := by
  unfold OwnB
  rw [byteCells_append, ← hz, List.length_append, ← hn]
  exact h
theorem one_cell {w : World} {x : Value} : ∀ j u, [x][j]? = some u → (w.alloc (.cells #[x] 5)).cell? ((⟨w.heap.size, 0, none⟩ : Addr).add j) = some u := by
  intro j u hj
  match j, hj with
  | 0, hj => simp at hj; subst hj; rw [add_at]; go_simp
theorem one_is {x : Int} : ∀ u ∈ [Value.int .u8 x], u.oneCell' = true := by
  intro u hu; simp at hu; subst hu; rfl
theorem bytes_is (l : List UInt8) : ∀ u ∈ Lib.byteCells l, u.oneCell' = true := by
  intro u hu
  simp only [Lib.byteCells, List.mem_map] at hu
  obtain ⟨b, _, rfl⟩ := hu
  rfl
theorem own_base {w : World} {base base' : Nat} {v : Value} {l : List UInt8} (h : OwnB w base' v l) (hb : base ≤ base') : OwnB w base v l := by
  obtain ⟨h0, h1 | ⟨g, cap, cur, h1, h2, h3⟩⟩ := h
  · exact ⟨h0, .inl h1⟩
  · exact ⟨h0, .inr ⟨g, cap, cur, h1, Nat.le_trans hb h2, h3⟩⟩
def unesc (c : UInt8) (ins : Bool) : List UInt8 := if c == 10 then [] else if ins && !(c == 36 || c == 34 || c == 92 || c == 96) then [92, c] else [c]
theorem idx_four (c : UInt8) : decide (Lib.indexByte [36, 34, 92, 96] c < 0) = !(c == 36 || c == 34 || c == 92 || c == 96) := by
  by_cases h1 : c = 36
  · subst h1; rfl
  by_cases h2 : c = 34
  · subst h2; rfl
  by_cases h3 : c = 92
  · subst h3; rfl
  by_cases h4 : c = 96
  · subst h4; rfl
  have e : Lib.indexByte [36, 34, 92, 96] c = -1 := by simp [Lib.indexByte, Ne.symm h1, Ne.symm h2, Ne.symm h3, Ne.symm h4]
  rw [e, beq_false_of_ne h1, beq_false_of_ne h2, beq_false_of_ne h3, beq_false_of_ne h4]
  rfl
theorem row_one (w : World) (c : UInt8) : OwnB (w.alloc (.cells #[.int .u8 (c.toNat : Int)] 5)) w.heap.size (.slice (some ⟨w.heap.size, 0, none⟩) 1 1) [c] :=
  ⟨rfl, .inr ⟨w.heap.size, 1, _, rfl, Nat.le_refl _, by show (w.heap.push _)[w.heap.size]? = _; simp; rfl, Nat.le_refl _, by unfold maxLen; omega, rfl, rfl⟩⟩
theorem row_two (w : World) (c d : UInt8) : OwnB (w.alloc (.cells #[.int .u8 (c.toNat : Int), .int .u8 (d.toNat : Int)] 5)) w.heap.size (.slice (some ⟨w.heap.size, 0, none⟩) 2 2) [c, d] :=
  ⟨rfl, .inr ⟨w.heap.size, 2, _, rfl, Nat.le_refl _, by show (w.heap.push _)[w.heap.size]? = _; simp; rfl, Nat.le_refl _, by unfold maxLen; omega, rfl, rfl⟩⟩
end Go.Proofs.YtnamfjbfcbamjaaGreatDoor

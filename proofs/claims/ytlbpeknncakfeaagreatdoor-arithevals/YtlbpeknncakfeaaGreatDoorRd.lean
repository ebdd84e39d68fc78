/-
  The reader's state, and its small methods: skip, fail, take.
-/
import Derived.Test.YtlbpeknncakfeaaGreatDoorTab
import Derived.Test.YtlbpeknncakfeaaGreatDoorValue
namespace Go.Proofs.YtlbpeknncakfeaaGreatDoor
open Go.RowKit Go.Maps

/-- A list's bytes as a text. -/
def BA (l : List UInt8) : ByteArray := ⟨l.toArray⟩
@[simp] theorem BA_list (l : List UInt8) : (BA l).data.toList = l := rfl
@[simp] theorem BA_size (l : List UInt8) : (BA l).size = l.length := rfl
theorem BA_of (s : ByteArray) : BA s.data.toList = s := rfl
/-- A list without the gap at its front. -/
def sk (l : List UInt8) : List UInt8 := Lib.trimLeftS l gaps
theorem trimL_BA (l : List UInt8) : trimL (BA l) = BA (sk l) := rfl
theorem sk_eq (l : List UInt8) : sk l = l.dropWhile (gaps.contains ·) := rfl
theorem sk_len (l : List UInt8) : (sk l).length ≤ l.length := by rw [sk_eq]; exact dropWhile_len _ l

theorem grown_of_below {w w' : World} (h : Below w.heap.size w w') : w.grownBy w' none := ⟨h.os, h.tape, h.output, h.size, fun i hi _ => h.block i hi⟩
theorem grown_but {a c : World} (h : a.grownBy c none) (row : Option Nat) : a.grownBy c row := ⟨h.os, h.tape, h.output, h.size, fun i hi _ => h.block i hi (by simp)⟩
theorem below_of_grown {w w' : World} (h : w.grownBy w' none) : Below w.heap.size w w' := ⟨h.os, h.tape, h.output, h.size, fun i hi => h.block i hi (by simp)⟩

/-- Block rb is the reader: its tables, what is left to be read, whether it has failed. -/
structure Rd (w : World) (rb b1 b2 : Nat) (l : List UInt8) (f : Bool) : Prop where
  blk : Blk w rb 88 #[.map (some b1), .map (some b2), .string (BA l), .bool f]
  tabs : Tabs w b1 b2
  len : l.length ≤ 100000
theorem map_ne {w : World} {rb b n : Nat} {t : TypeId} {cs : Array Value} {L : DataW Value} (h : Blk w rb t cs) (m : w.ownsMap Tryz.prog 9 itself b n L) : rb ≠ b := by
  rintro rfl
  obtain ⟨es, c, hb, _⟩ := m
  rw [show w.heap[rb]? = _ from h] at hb
  cases hb
theorem Rd.ne1 {w : World} {rb b1 b2 : Nat} {l : List UInt8} {f : Bool} (h : Rd w rb b1 b2 l f) : rb ≠ b1 := map_ne h.blk h.tabs.ops
theorem Rd.ne2 {w : World} {rb b1 b2 : Nat} {l : List UInt8} {f : Bool} (h : Rd w rb b1 b2 l f) : rb ≠ b2 := map_ne h.blk h.tabs.signs
theorem Rd.kept {w w' : World} {rb b1 b2 : Nat} {l : List UInt8} {f : Bool} (h : Rd w rb b1 b2 l f) (hg : w.grownBy w' none) : Rd w' rb b1 b2 l f :=
  ⟨h.blk.kept hg (by simp), h.tabs.kept hg (by simp) (by simp), h.len⟩
theorem Rd.below {w w' : World} {rb b1 b2 : Nat} {l : List UInt8} {f : Bool} (h : Rd w rb b1 b2 l f) (hg : Below w.heap.size w w') : Rd w' rb b1 b2 l f := h.kept (grown_of_below hg)
theorem Rd.set {w : World} {rb b1 b2 : Nat} {l : List UInt8} {f : Bool} (h : Rd w rb b1 b2 l f) (l' : List UInt8) (hl : l'.length ≤ 100000) : Rd (w.setCell ⟨rb, 2, none⟩ (.string (BA l'))) rb b1 b2 l' f :=
  ⟨h.blk.set 2 _, h.tabs.kept (grown_setCell w ⟨rb, 2, none⟩ _) (by have := h.ne1; simp; omega) (by have := h.ne2; simp; omega), hl⟩
theorem Rd.fail {w : World} {rb b1 b2 : Nat} {l : List UInt8} {f : Bool} (h : Rd w rb b1 b2 l f) : Rd (w.setCell ⟨rb, 3, none⟩ (.bool true)) rb b1 b2 l true :=
  ⟨h.blk.set 3 _, h.tabs.kept (grown_setCell w ⟨rb, 3, none⟩ _) (by have := h.ne1; simp; omega) (by have := h.ne2; simp; omega), h.len⟩
theorem Rd.c2 {w : World} {rb b1 b2 : Nat} {l : List UInt8} {f : Bool} (h : Rd w rb b1 b2 l f) : w.cell? ⟨rb, 2, none⟩ = some (.string (BA l)) := h.blk.cell 2 rfl
theorem Rd.c3 {w : World} {rb b1 b2 : Nat} {l : List UInt8} {f : Bool} (h : Rd w rb b1 b2 l f) : w.cell? ⟨rb, 3, none⟩ = some (.bool f) := h.blk.cell 3 rfl
theorem Rd.c0 {w : World} {rb b1 b2 : Nat} {l : List UInt8} {f : Bool} (h : Rd w rb b1 b2 l f) : w.cell? ⟨rb, 0, none⟩ = some (.map (some b1)) := h.blk.cell 0 rfl
theorem Rd.c1 {w : World} {rb b1 b2 : Nat} {l : List UInt8} {f : Bool} (h : Rd w rb b1 b2 l f) : w.cell? ⟨rb, 1, none⟩ = some (.map (some b2)) := h.blk.cell 1 rfl

theorem res0 {fn : Func} (h : fn.results = #[]) (tmps : Array Value) (w : World) : (results fn tmps).run Tryz.prog w = .ok (.tuple #[]) w := by
  unfold results
  rw [h]
  simp [go_sem]

set_option maxRecDepth 20000 in
theorem skip_any (rb b1 b2 : Nat) (l : List UInt8) (f : Bool) (w : World) (h : Rd w rb b1 b2 l f) :
    Calls Tryz.prog 43 #[.pointer (some ⟨rb, 0, none⟩)] w fun e w' => e = .returned (.tuple #[]) ∧ Rd w' rb b1 b2 (sk l) f ∧ w.grownBy w' (some rb) := by
  have c2 := h.c2
  have H := hide h
  clear h
  go_enter Tryz.func43, Tryz.ntmps43
  go_wp2_with fail
  refine (trimLeft_any (BA l) w).mono ?_
  rintro e w1 ⟨rfl, bb1⟩
  rw [trimL_BA]
  have h1 := (unhide H).below bb1
  have d2 := h1.c2
  have d3 := h1.blk.frozen 2
  have H1 := hide h1
  have B1 := hide bb1
  clear h1 bb1
  go_wp2
  refine bodyPost_end (res0 rfl _ _) rfl ?_
  exact ⟨rfl, (unhide H1).set _ (Nat.le_trans (sk_len l) (unhide H).len), (grown_but (grown_of_below (unhide B1)) _).trans (grown_setCell w1 ⟨rb, 2, none⟩ _)⟩

set_option maxRecDepth 20000 in
theorem fail_any (rb b1 b2 : Nat) (l : List UInt8) (f : Bool) (w : World) (h : Rd w rb b1 b2 l f) :
    Calls Tryz.prog 111 #[.pointer (some ⟨rb, 0, none⟩)] w fun e w' => e = .returned .nilFunc ∧ Rd w' rb b1 b2 [] true ∧ w.grownBy w' (some rb) := by
  have c2 := h.c2
  have c3 := h.c3
  have d2 := h.blk.frozen 2
  have d3 := h.blk.frozen 3
  have H := hide h
  clear h
  go_enter Tryz.func111, Tryz.ntmps111
  go_wp2
  go_ret
  exact ⟨rfl, (unhide H).fail.set [] (by simp), (grown_setCell w ⟨rb, 3, none⟩ _).trans (grown_setCell _ ⟨rb, 2, none⟩ _)⟩

set_option maxRecDepth 20000 in
theorem take_any (p : ByteArray) (rb b1 b2 : Nat) (l : List UInt8) (f : Bool) (w : World) (h : Rd w rb b1 b2 l f) :
    Calls Tryz.prog 110 #[.pointer (some ⟨rb, 0, none⟩), .string p] w fun e w' => e = .returned (.bool (Lib.hasPrefix (sk l) p.data.toList)) ∧ Rd w' rb b1 b2 (Lib.trimPrefix (sk l) p.data.toList) f ∧ w.grownBy w' (some rb) := by
  have H := hide h
  clear h
  go_enter Tryz.func110, Tryz.ntmps110
  go_wp2_with fail
  refine (skip_any rb b1 b2 l f w (unhide H)).mono ?_
  rintro e w1 ⟨rfl, h1, g1⟩
  have c2 := h1.c2
  have d2 := h1.blk.frozen 2
  have H1 := hide h1
  have G1 := hide g1
  clear h1 g1
  go_wp2_with fail
  refine (Tryz.strings_CutPrefix (BA (sk l)) p _).mono ?_
  rintro ee x1 ⟨rfl, hx1⟩
  have hx2 := hx1.symm
  subst hx2
  clear hx1
  go_wp2
  go_ret
  refine ⟨rfl, ?_, (unhide G1).trans (grown_setCell _ ⟨rb, 2, none⟩ _)⟩
  exact (unhide H1).set (Lib.trimPrefix (sk l) p.data.toList) (by
    have := (unhide H1).len
    unfold Lib.trimPrefix
    split
    · rw [List.length_drop]; omega
    · exact this)

end Go.Proofs.YtlbpeknncakfeaaGreatDoor

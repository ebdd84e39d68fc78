/-
  The contracts of strconv.ParseUint and of the program's 'number'.
-/
import Derived.Test.YtlbpeknncakfeaaGreatDoorPuint
import Derived.Test.YtlbpeknncakfeaaGreatDoorShelf
import Derived.Lib.Bytes2
namespace Go.Proofs.YtlbpeknncakfeaaGreatDoor
open Go.RowKit

theorem cell_lt {W : World} {p : Addr} {v : Value} (h : W.cell? p = some v) : p.block < W.heap.size := by
  rcases Nat.lt_or_ge p.block W.heap.size with h' | h'
  · exact h'
  · unfold World.cell? at h
    rw [Array.getElem?_eq_none h'] at h
    cases h
def IsErr (v : Value) : Prop := v = .nilIface ∨ ∃ te pe, v = .iface te pe
/-- What the two variables of package strconv hold. -/
structure Glob (w : World) : Prop where
  syn : ∃ v, w.cell? ⟨2, 0, none⟩ = some v ∧ IsErr v
  rng : ∃ v, w.cell? ⟨3, 0, none⟩ = some v ∧ IsErr v
theorem Glob.below {w w' : World} (h : Glob w) (hb : Below w.heap.size w w') : Glob w' := by
  obtain ⟨⟨v, h1, h2⟩, ⟨u, h3, h4⟩⟩ := h
  exact ⟨⟨v, (hb.cell (cell_lt h1)).trans h1, h2⟩, ⟨u, (hb.cell (cell_lt h3)).trans h3, h4⟩⟩

theorem puint_any (B : Int) (hB : B = 8 ∨ B = 10 ∨ B = 16) (t : ByteArray) (w : World) (ht : t.size ≤ 100000) :
    Calls Tryz.prog 58 #[.string t, .int .i64 B, .int .i64 64] w fun e w' => PuEnd B t e ∧ Below w.heap.size w w' := by
  rcases hB with rfl | rfl | rfl
  · exact puint8_any t w ht
  · exact puint10_any t w ht
  · exact puint16_any t w ht

/-- What strconv.ParseUint answers. -/
def PpEnd (r : Option Int) (e : Ending) : Prop := match r with
  | some u => e = .returned (.tuple #[.int .u64 u, .nilIface])
  | none => ∃ x p, e = .returned (.tuple #[.int .u64 x, .iface 113 p])

set_option maxHeartbeats 2000000 in
theorem ppu_any (B : Int) (hB : B = 8 ∨ B = 10 ∨ B = 16) (t : ByteArray) (w : World) (ht : t.size ≤ 100000) (hg : Glob w) :
    Calls Tryz.prog 38 #[.string t, .int .i64 B, .int .i64 64] w fun e w' => PpEnd (puS B t) e ∧ Below w.heap.size w w' := by
  have HP := hide (puint_any B hB t w ht)
  have HG := hide hg
  rcases hp : puS B t with _ | u
  · unfold PuEnd at HP
    rw [hp] at HP
    clear hp hB hg
    go_enter Tryz.func38, Tryz.ntmps38
    go_wp2_with fail
    refine (unhide HP).mono ?_
    rintro e w1 ⟨⟨x, c, rfl, hc⟩, b1⟩
    have HG1 := hide ((unhide HG).below b1)
    have HB1 := hide b1
    clear b1
    rcases hc with rfl | rfl
    · obtain ⟨v, hv, hev⟩ := (unhide HG1).rng
      go_wp2_with fail
      refine (Tryz.strconv_toError_range _ t B 64 v w1 (by omega) hv hev).mono ?_
      rintro e w2 ⟨N, rfl, _, _, b2⟩
      go_wp2
      go_ret2
      exact ⟨⟨_, _, rfl⟩, (unhide HB1).trans (b2.mono (unhide HB1).size)⟩
    · obtain ⟨v, hv, hev⟩ := (unhide HG1).syn
      go_wp2_with fail
      refine (Tryz.strconv_toError_syntax _ t B 64 v w1 (by omega) hv hev).mono ?_
      rintro e w2 ⟨N, rfl, _, _, b2⟩
      go_wp2
      go_ret2
      exact ⟨⟨_, _, rfl⟩, (unhide HB1).trans (b2.mono (unhide HB1).size)⟩
  · unfold PuEnd at HP
    rw [hp] at HP
    clear hp hB hg
    go_enter Tryz.func38, Tryz.ntmps38
    go_wp2_with fail
    refine (unhide HP).mono ?_
    rintro e w1 ⟨rfl, b1⟩
    go_wp2
    go_ret2
    exact ⟨rfl, b1⟩

/-- The number of a number's word. -/
def numW (t : ByteArray) : Option Int :=
  if Lib.hasPrefix t.data.toList [48, 120] || Lib.hasPrefix t.data.toList [48, 88] then puS 16 (t.extract 2 t.size)
  else if Lib.hasPrefix t.data.toList [48] then puS 8 t else puS 10 t
def atMost (m : Int) : Option Int → Option Int
  | some n => if n ≤ m then some n else none
  | none => none
/-- What 'number' answers. -/
def NumEnd (r : Option Int) (e : Ending) : Prop := match r with
  | some n => e = .returned (.tuple #[.int .u64 n, .int .i64 0])
  | none => e = .returned (.tuple #[.int .u64 0, .int .i64 10])

theorem below_drew {W W' : World} (h : Below W.drew.heap.size W.drew W') : Below W.heap.size W W' := ⟨h.os, h.tape, h.output, h.size, h.block⟩

set_option maxHeartbeats 4000000 in
theorem number_any (t : ByteArray) (most : Int) (w : World) (ht : t.size ≤ 100000) (hg : Glob w) :
    Calls Tryz.prog 20 #[.string t, .int .u64 most] w fun e w' => NumEnd (atMost most (numW t)) e ∧ Below w.heap.size w w' := by
  have HG := hide hg
  clear hg
  rcases Bool.eq_false_or_eq_true (Lib.hasPrefix t.data.toList [48, 120]) with hx | hx
  · have HW : Hid (numW t = puS 16 (t.extract 2 t.size)) := hide (by unfold numW; rw [hx]; rfl)
    have h2 : 2 ≤ t.size := Lib.hasPrefix_le hx
    have h2i : (2 : Int) ≤ (t.size : Int) := by omega
    have HP := hide (ppu_any 16 (by simp) (t.extract 2 t.size) w.drew (by rw [ByteArray.size_extract]; omega) ((unhide HG).below (Below.refl _ w).drew))
    rcases hp : puS 16 (t.extract 2 t.size) with _ | u
    · have HR : Hid (atMost most (numW t) = none) := hide (by rw [unhide HW, hp]; rfl)
      rw [hp] at HP
      clear hp
      go_enter Tryz.func20, Tryz.ntmps20
      go_wp2_with fail
      refine (Tryz.strings_HasPrefix t ⟨#[48, 120]⟩ _).mono ?_
      rintro ee x1 ⟨rfl, hx1⟩
      have hx2 := hx1.symm
      subst hx2
      clear hx1
      rw [show Lib.hasPrefix t.data.toList (⟨#[48, 120]⟩ : ByteArray).data.toList = true from hx]
      go_wp2_with fail
      go_region
      all_goals go_wp2_with fail
      refine (unhide HP).mono ?_
      rintro e w1 ⟨⟨x, p, rfl⟩, b1⟩
      go_wp2
      go_ret2
      exact ⟨by rw [unhide HR]; rfl, below_drew b1⟩
    · rw [hp] at HP
      by_cases hm : u ≤ most
      · have HR : Hid (atMost most (numW t) = some u) := hide (by rw [unhide HW, hp]; simp [atMost, hm])
        have hm2 : decide (most < u) = false := by rw [decide_eq_false_iff_not]; omega
        clear hp
        go_enter Tryz.func20, Tryz.ntmps20
        go_wp2_with fail
        refine (Tryz.strings_HasPrefix t ⟨#[48, 120]⟩ _).mono ?_
        rintro ee x1 ⟨rfl, hx1⟩
        have hx2 := hx1.symm
        subst hx2
        clear hx1
        rw [show Lib.hasPrefix t.data.toList (⟨#[48, 120]⟩ : ByteArray).data.toList = true from hx]
        go_wp2_with fail
        go_region
        all_goals go_wp2_with fail
        refine (unhide HP).mono ?_
        rintro e w1 ⟨rfl, b1⟩
        go_wp2
        go_ret2
        exact ⟨by rw [unhide HR]; rfl, below_drew b1⟩
      · have HR : Hid (atMost most (numW t) = none) := hide (by rw [unhide HW, hp]; simp [atMost, hm])
        have hm2 : most < u := by omega
        clear hp
        go_enter Tryz.func20, Tryz.ntmps20
        go_wp2_with fail
        refine (Tryz.strings_HasPrefix t ⟨#[48, 120]⟩ _).mono ?_
        rintro ee x1 ⟨rfl, hx1⟩
        have hx2 := hx1.symm
        subst hx2
        clear hx1
        rw [show Lib.hasPrefix t.data.toList (⟨#[48, 120]⟩ : ByteArray).data.toList = true from hx]
        go_wp2_with fail
        go_region
        all_goals go_wp2_with fail
        refine (unhide HP).mono ?_
        rintro e w1 ⟨rfl, b1⟩
        go_wp2
        go_ret2
        exact ⟨by rw [unhide HR]; rfl, below_drew b1⟩
  · rcases Bool.eq_false_or_eq_true (Lib.hasPrefix t.data.toList [48, 88]) with hy | hy
    · have HW : Hid (numW t = puS 16 (t.extract 2 t.size)) := hide (by unfold numW; rw [hx, hy]; rfl)
      have h2 : 2 ≤ t.size := Lib.hasPrefix_le hy
      have h2i : (2 : Int) ≤ (t.size : Int) := by omega
      have HP := hide (ppu_any 16 (by simp) (t.extract 2 t.size) w.drew (by rw [ByteArray.size_extract]; omega) ((unhide HG).below (Below.refl _ w).drew))
      rcases hp : puS 16 (t.extract 2 t.size) with _ | u
      · have HR : Hid (atMost most (numW t) = none) := hide (by rw [unhide HW, hp]; rfl)
        rw [hp] at HP
        clear hp
        go_enter Tryz.func20, Tryz.ntmps20
        go_wp2_with fail
        refine (Tryz.strings_HasPrefix t ⟨#[48, 120]⟩ _).mono ?_
        rintro ee x1 ⟨rfl, hx1⟩
        have hx2 := hx1.symm
        subst hx2
        clear hx1
        rw [show Lib.hasPrefix t.data.toList (⟨#[48, 120]⟩ : ByteArray).data.toList = false from hx]
        go_wp2_with fail
        refine (Tryz.strings_HasPrefix t ⟨#[48, 88]⟩ _).mono ?_
        rintro ee x1 ⟨rfl, hx1⟩
        have hx2 := hx1.symm
        subst hx2
        clear hx1
        rw [show Lib.hasPrefix t.data.toList (⟨#[48, 88]⟩ : ByteArray).data.toList = true from hy]
        go_wp2_with fail
        go_region
        all_goals go_wp2_with fail
        refine (unhide HP).mono ?_
        rintro e w1 ⟨⟨x, p, rfl⟩, b1⟩
        go_wp2
        go_ret2
        exact ⟨by rw [unhide HR]; rfl, below_drew b1⟩
      · rw [hp] at HP
        by_cases hm : u ≤ most
        · have HR : Hid (atMost most (numW t) = some u) := hide (by rw [unhide HW, hp]; simp [atMost, hm])
          have hm2 : decide (most < u) = false := by rw [decide_eq_false_iff_not]; omega
          clear hp
          go_enter Tryz.func20, Tryz.ntmps20
          go_wp2_with fail
          refine (Tryz.strings_HasPrefix t ⟨#[48, 120]⟩ _).mono ?_
          rintro ee x1 ⟨rfl, hx1⟩
          have hx2 := hx1.symm
          subst hx2
          clear hx1
          rw [show Lib.hasPrefix t.data.toList (⟨#[48, 120]⟩ : ByteArray).data.toList = false from hx]
          go_wp2_with fail
          refine (Tryz.strings_HasPrefix t ⟨#[48, 88]⟩ _).mono ?_
          rintro ee x1 ⟨rfl, hx1⟩
          have hx2 := hx1.symm
          subst hx2
          clear hx1
          rw [show Lib.hasPrefix t.data.toList (⟨#[48, 88]⟩ : ByteArray).data.toList = true from hy]
          go_wp2_with fail
          go_region
          all_goals go_wp2_with fail
          refine (unhide HP).mono ?_
          rintro e w1 ⟨rfl, b1⟩
          go_wp2
          go_ret2
          exact ⟨by rw [unhide HR]; rfl, below_drew b1⟩
        · have HR : Hid (atMost most (numW t) = none) := hide (by rw [unhide HW, hp]; simp [atMost, hm])
          have hm2 : most < u := by omega
          clear hp
          go_enter Tryz.func20, Tryz.ntmps20
          go_wp2_with fail
          refine (Tryz.strings_HasPrefix t ⟨#[48, 120]⟩ _).mono ?_
          rintro ee x1 ⟨rfl, hx1⟩
          have hx2 := hx1.symm
          subst hx2
          clear hx1
          rw [show Lib.hasPrefix t.data.toList (⟨#[48, 120]⟩ : ByteArray).data.toList = false from hx]
          go_wp2_with fail
          refine (Tryz.strings_HasPrefix t ⟨#[48, 88]⟩ _).mono ?_
          rintro ee x1 ⟨rfl, hx1⟩
          have hx2 := hx1.symm
          subst hx2
          clear hx1
          rw [show Lib.hasPrefix t.data.toList (⟨#[48, 88]⟩ : ByteArray).data.toList = true from hy]
          go_wp2_with fail
          go_region
          all_goals go_wp2_with fail
          refine (unhide HP).mono ?_
          rintro e w1 ⟨rfl, b1⟩
          go_wp2
          go_ret2
          exact ⟨by rw [unhide HR]; rfl, below_drew b1⟩
    · rcases Bool.eq_false_or_eq_true (Lib.hasPrefix t.data.toList [48]) with hz | hz
      · have HW : Hid (numW t = puS 8 t) := hide (by unfold numW; rw [hx, hy, hz]; rfl)
        have HP := hide (ppu_any 8 (by simp) t w ht (unhide HG))
        rcases hp : puS 8 t with _ | u
        · have HR : Hid (atMost most (numW t) = none) := hide (by rw [unhide HW, hp]; rfl)
          rw [hp] at HP
          clear hp
          go_enter Tryz.func20, Tryz.ntmps20
          go_wp2_with fail
          refine (Tryz.strings_HasPrefix t ⟨#[48, 120]⟩ _).mono ?_
          rintro ee x1 ⟨rfl, hx1⟩
          have hx2 := hx1.symm
          subst hx2
          clear hx1
          rw [show Lib.hasPrefix t.data.toList (⟨#[48, 120]⟩ : ByteArray).data.toList = false from hx]
          go_wp2_with fail
          refine (Tryz.strings_HasPrefix t ⟨#[48, 88]⟩ _).mono ?_
          rintro ee x1 ⟨rfl, hx1⟩
          have hx2 := hx1.symm
          subst hx2
          clear hx1
          rw [show Lib.hasPrefix t.data.toList (⟨#[48, 88]⟩ : ByteArray).data.toList = false from hy]
          go_wp2_with fail
          refine (Tryz.strings_HasPrefix t ⟨#[48]⟩ _).mono ?_
          rintro ee x1 ⟨rfl, hx1⟩
          have hx2 := hx1.symm
          subst hx2
          clear hx1
          rw [show Lib.hasPrefix t.data.toList (⟨#[48]⟩ : ByteArray).data.toList = true from hz]
          go_wp2_with fail
          refine (unhide HP).mono ?_
          rintro e w1 ⟨⟨x, p, rfl⟩, b1⟩
          go_wp2
          go_ret2
          exact ⟨by rw [unhide HR]; rfl, b1⟩
        · rw [hp] at HP
          by_cases hm : u ≤ most
          · have HR : Hid (atMost most (numW t) = some u) := hide (by rw [unhide HW, hp]; simp [atMost, hm])
            have hm2 : decide (most < u) = false := by rw [decide_eq_false_iff_not]; omega
            clear hp
            go_enter Tryz.func20, Tryz.ntmps20
            go_wp2_with fail
            refine (Tryz.strings_HasPrefix t ⟨#[48, 120]⟩ _).mono ?_
            rintro ee x1 ⟨rfl, hx1⟩
            have hx2 := hx1.symm
            subst hx2
            clear hx1
            rw [show Lib.hasPrefix t.data.toList (⟨#[48, 120]⟩ : ByteArray).data.toList = false from hx]
            go_wp2_with fail
            refine (Tryz.strings_HasPrefix t ⟨#[48, 88]⟩ _).mono ?_
            rintro ee x1 ⟨rfl, hx1⟩
            have hx2 := hx1.symm
            subst hx2
            clear hx1
            rw [show Lib.hasPrefix t.data.toList (⟨#[48, 88]⟩ : ByteArray).data.toList = false from hy]
            go_wp2_with fail
            refine (Tryz.strings_HasPrefix t ⟨#[48]⟩ _).mono ?_
            rintro ee x1 ⟨rfl, hx1⟩
            have hx2 := hx1.symm
            subst hx2
            clear hx1
            rw [show Lib.hasPrefix t.data.toList (⟨#[48]⟩ : ByteArray).data.toList = true from hz]
            go_wp2_with fail
            refine (unhide HP).mono ?_
            rintro e w1 ⟨rfl, b1⟩
            go_wp2
            go_ret2
            exact ⟨by rw [unhide HR]; rfl, b1⟩
          · have HR : Hid (atMost most (numW t) = none) := hide (by rw [unhide HW, hp]; simp [atMost, hm])
            have hm2 : most < u := by omega
            clear hp
            go_enter Tryz.func20, Tryz.ntmps20
            go_wp2_with fail
            refine (Tryz.strings_HasPrefix t ⟨#[48, 120]⟩ _).mono ?_
            rintro ee x1 ⟨rfl, hx1⟩
            have hx2 := hx1.symm
            subst hx2
            clear hx1
            rw [show Lib.hasPrefix t.data.toList (⟨#[48, 120]⟩ : ByteArray).data.toList = false from hx]
            go_wp2_with fail
            refine (Tryz.strings_HasPrefix t ⟨#[48, 88]⟩ _).mono ?_
            rintro ee x1 ⟨rfl, hx1⟩
            have hx2 := hx1.symm
            subst hx2
            clear hx1
            rw [show Lib.hasPrefix t.data.toList (⟨#[48, 88]⟩ : ByteArray).data.toList = false from hy]
            go_wp2_with fail
            refine (Tryz.strings_HasPrefix t ⟨#[48]⟩ _).mono ?_
            rintro ee x1 ⟨rfl, hx1⟩
            have hx2 := hx1.symm
            subst hx2
            clear hx1
            rw [show Lib.hasPrefix t.data.toList (⟨#[48]⟩ : ByteArray).data.toList = true from hz]
            go_wp2_with fail
            refine (unhide HP).mono ?_
            rintro e w1 ⟨rfl, b1⟩
            go_wp2
            go_ret2
            exact ⟨by rw [unhide HR]; rfl, b1⟩
      · have HW : Hid (numW t = puS 10 t) := hide (by unfold numW; rw [hx, hy, hz]; rfl)
        have HP := hide (ppu_any 10 (by simp) t w ht (unhide HG))
        rcases hp : puS 10 t with _ | u
        · have HR : Hid (atMost most (numW t) = none) := hide (by rw [unhide HW, hp]; rfl)
          rw [hp] at HP
          clear hp
          go_enter Tryz.func20, Tryz.ntmps20
          go_wp2_with fail
          refine (Tryz.strings_HasPrefix t ⟨#[48, 120]⟩ _).mono ?_
          rintro ee x1 ⟨rfl, hx1⟩
          have hx2 := hx1.symm
          subst hx2
          clear hx1
          rw [show Lib.hasPrefix t.data.toList (⟨#[48, 120]⟩ : ByteArray).data.toList = false from hx]
          go_wp2_with fail
          refine (Tryz.strings_HasPrefix t ⟨#[48, 88]⟩ _).mono ?_
          rintro ee x1 ⟨rfl, hx1⟩
          have hx2 := hx1.symm
          subst hx2
          clear hx1
          rw [show Lib.hasPrefix t.data.toList (⟨#[48, 88]⟩ : ByteArray).data.toList = false from hy]
          go_wp2_with fail
          refine (Tryz.strings_HasPrefix t ⟨#[48]⟩ _).mono ?_
          rintro ee x1 ⟨rfl, hx1⟩
          have hx2 := hx1.symm
          subst hx2
          clear hx1
          rw [show Lib.hasPrefix t.data.toList (⟨#[48]⟩ : ByteArray).data.toList = false from hz]
          go_wp2_with fail
          refine (unhide HP).mono ?_
          rintro e w1 ⟨⟨x, p, rfl⟩, b1⟩
          go_wp2
          go_ret2
          exact ⟨by rw [unhide HR]; rfl, b1⟩
        · rw [hp] at HP
          by_cases hm : u ≤ most
          · have HR : Hid (atMost most (numW t) = some u) := hide (by rw [unhide HW, hp]; simp [atMost, hm])
            have hm2 : decide (most < u) = false := by rw [decide_eq_false_iff_not]; omega
            clear hp
            go_enter Tryz.func20, Tryz.ntmps20
            go_wp2_with fail
            refine (Tryz.strings_HasPrefix t ⟨#[48, 120]⟩ _).mono ?_
            rintro ee x1 ⟨rfl, hx1⟩
            have hx2 := hx1.symm
            subst hx2
            clear hx1
            rw [show Lib.hasPrefix t.data.toList (⟨#[48, 120]⟩ : ByteArray).data.toList = false from hx]
            go_wp2_with fail
            refine (Tryz.strings_HasPrefix t ⟨#[48, 88]⟩ _).mono ?_
            rintro ee x1 ⟨rfl, hx1⟩
            have hx2 := hx1.symm
            subst hx2
            clear hx1
            rw [show Lib.hasPrefix t.data.toList (⟨#[48, 88]⟩ : ByteArray).data.toList = false from hy]
            go_wp2_with fail
            refine (Tryz.strings_HasPrefix t ⟨#[48]⟩ _).mono ?_
            rintro ee x1 ⟨rfl, hx1⟩
            have hx2 := hx1.symm
            subst hx2
            clear hx1
            rw [show Lib.hasPrefix t.data.toList (⟨#[48]⟩ : ByteArray).data.toList = false from hz]
            go_wp2_with fail
            refine (unhide HP).mono ?_
            rintro e w1 ⟨rfl, b1⟩
            go_wp2
            go_ret2
            exact ⟨by rw [unhide HR]; rfl, b1⟩
          · have HR : Hid (atMost most (numW t) = none) := hide (by rw [unhide HW, hp]; simp [atMost, hm])
            have hm2 : most < u := by omega
            clear hp
            go_enter Tryz.func20, Tryz.ntmps20
            go_wp2_with fail
            refine (Tryz.strings_HasPrefix t ⟨#[48, 120]⟩ _).mono ?_
            rintro ee x1 ⟨rfl, hx1⟩
            have hx2 := hx1.symm
            subst hx2
            clear hx1
            rw [show Lib.hasPrefix t.data.toList (⟨#[48, 120]⟩ : ByteArray).data.toList = false from hx]
            go_wp2_with fail
            refine (Tryz.strings_HasPrefix t ⟨#[48, 88]⟩ _).mono ?_
            rintro ee x1 ⟨rfl, hx1⟩
            have hx2 := hx1.symm
            subst hx2
            clear hx1
            rw [show Lib.hasPrefix t.data.toList (⟨#[48, 88]⟩ : ByteArray).data.toList = false from hy]
            go_wp2_with fail
            refine (Tryz.strings_HasPrefix t ⟨#[48]⟩ _).mono ?_
            rintro ee x1 ⟨rfl, hx1⟩
            have hx2 := hx1.symm
            subst hx2
            clear hx1
            rw [show Lib.hasPrefix t.data.toList (⟨#[48]⟩ : ByteArray).data.toList = false from hz]
            go_wp2_with fail
            refine (unhide HP).mono ?_
            rintro e w1 ⟨rfl, b1⟩
            go_wp2
            go_ret2
            exact ⟨by rw [unhide HR]; rfl, b1⟩

end Go.Proofs.YtlbpeknncakfeaaGreatDoor

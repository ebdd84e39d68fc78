/-
  What the laws of this seat share: the frame, the listed variables, arguments that came in.
-/
import Derived.Test.YtbcbnoeplapblaaGreatDoorVLaw
import Derived.Test.YtbcbnoeplapblaaGreatDoorFrame
import Derived.Test.YtbcbnoeplapblaaGreatDoorTie
import Derived.Test.YtbcbnoeplapblaaGreatDoorCards
import Derived.Stop.LaidErr
import Derived.Lib.LaidTab
import Derived.ChangeMaps5
namespace Go.Proofs.YtbcbnoeplapblaaGreatDoor
open Go.ChangeShapes Go.WideShapes Go.ChangeAt Go.RowKit

/-- The list of all rows of this seat. -/
def seatLaid : List (String × DataW Unit) := [("math/bits.deBruijn32tab", Rows.laid_math_bits_deBruijn32tab), ("math/bits.deBruijn64tab", Rows.laid_math_bits_deBruijn64tab), ("internal/strconv.uint64pow10", Rows.laid_internal_strconv_uint64pow10)]
theorem own : ownKnob Tryz.prog.godebug = none := by kernel_rfl
theorem laidOut : laidOutB Tryz.prog = true := by kernel_rfl
theorem read_of {P : Program} {ts : List TypeId} (h : (ts.all fun t => P.readableRec t && decide (t < P.types.size)) = true) : ∀ t ∈ ts, P.readableRec t = true ∧ t < P.types.size := by
  intro t ht
  have := List.all_eq_true.1 h t ht
  simpa using this
theorem door_met (os : Os) (args : Array Value) : laidMetH Tryz.prog seatLaid ((World.laidAll Tryz.prog os seatLaid).forCall (fun _ _ => 0) ⟨#[], args, []⟩).memory := by
  rw [MakeChecks.laidMetH_plain _ _ _ (by kernel_rfl)]
  exact laidMet_laidAll _ (by kernel_rfl) (by kernel_rfl)
theorem str_of (s : ByteArray) : s = BA s.data.toList := rfl
set_option maxRecDepth 20000 in
set_option maxHeartbeats 1000000 in
theorem op_of {H : Type} {enc : TypeId × Value → H} {W : World} {v : Value} {d : DataW H} {p : List MemPlace} (hok : ∃ cs, v = .agg cs ∧ cs.size = Tryz.prog.cellsOf 36) (h : DataW.Trod enc Tryz.prog W 0 (fun _ => true) true 36 v d p) : ∃ (o : OpP) (u : Value), v = opV o u ∧ AIn W u o.args := by
  obtain ⟨cs, rfl, hs⟩ := hok
  rw [cOp] at hs
  obtain ⟨fuel, h⟩ := h
  have h : DataW.trod enc Tryz.prog W 0 (fun _ => true) true fuel 36 cs.toList = some (d, p) := by simpa [Value.cells] using h
  obtain ⟨xs, k, hk, hxy, _, hxl, hf⟩ := DataW.trod_struct Tryz.underlying36 h
  obtain ⟨l⟩ := cs
  match xs, hxl, l, hs with
  | [y0, y1, y2, y3, y4], _, [v0, v1, v2, v3, v4], _ =>
    have g0 := hf 0 _ rfl
    have g1 := hf 1 _ rfl
    have g2 := hf 2 _ rfl
    have g3 := hf 3 _ rfl
    have g4 := hf 4 _ rfl
    simp [c3, c9, c29] at g0 g1 g2 g3 g4
    obtain ⟨z0, hz0, _⟩ := DataW.trod_int Tryz.underlying3 g0
    obtain ⟨z1, hz1, _⟩ := DataW.trod_string Tryz.underlying9 g1
    obtain ⟨z2, hz2, _⟩ := DataW.trod_string Tryz.underlying9 g2
    obtain ⟨z3, hz3, _⟩ := DataW.trod_int Tryz.underlying3 g3
    obtain ⟨l, hws⟩ := texts_all g4
    simp at hz0 hz1 hz2 hz3
    subst hz0 hz1 hz2 hz3
    exact ⟨⟨z0, z1.data.toList, z2.data.toList, z3, l⟩, v4, rfl, hws⟩

end Go.Proofs.YtbcbnoeplapblaaGreatDoor

/-
  What the listed tables and the world's shape give the walks ('Env'), and the parts of the frame that all laws of this seat share.
-/
import Derived.Test.YtlbpeknncakfeaaGreatDoorAwake
import Derived.Test.YtlbpeknncakfeaaGreatDoorFrame
import Derived.Test.YtlbpeknncakfeaaGreatDoorTie
import Derived.Test.YtlbpeknncakfeaaGreatDoorCards
import Derived.Stop.LaidErr
namespace Go.Proofs.YtlbpeknncakfeaaGreatDoor
open Go.ChangeShapes Go.WideShapes Go.ChangeAt Go.RowKit

/-- The list of all rows of this seat. -/
def seatLaid : List (String × DataW Unit) := [("math/bits.deBruijn32tab", Rows.laid_math_bits_deBruijn32tab), ("math/bits.deBruijn64tab", Rows.laid_math_bits_deBruijn64tab), ("internal/strconv.uint64pow10", Rows.laid_internal_strconv_uint64pow10), ("unicode/utf8.acceptRanges", Rows.laid_unicode_utf8_acceptRanges), ("strconv.ErrRange", Rows.laid_strconv_ErrRange), ("strconv.ErrSyntax", Rows.laid_strconv_ErrSyntax), ("unicode/utf8.first", Rows.laid_unicode_utf8_first)]

theorem own : ownKnob Tryz.prog.godebug = none := by kernel_rfl
theorem laidOut : laidOutB Tryz.prog = true := by kernel_rfl
theorem pow_eq : (Rows.laid_internal_strconv_uint64pow10 : DataW Unit) = Lib.tabData .u64 Lib.pow10Tab := by kernel_rfl
theorem gPow4 : Tryz.prog.globalNamed "internal/strconv.uint64pow10" = some 4 := by kernel_rfl
theorem tPow : (Tryz.prog.globals[4]?).map (·.type) = some 142 := by kernel_rfl
theorem cells142 : Tryz.prog.cellsOf 142 = 20 := by kernel_rfl
theorem cells48 : Tryz.prog.cellsOf 48 = 1 := by kernel_rfl
theorem gSyn : Tryz.prog.globalNamed "strconv.ErrSyntax" = some 2 := by kernel_rfl
theorem gRng : Tryz.prog.globalNamed "strconv.ErrRange" = some 3 := by kernel_rfl
theorem tSyn : (Tryz.prog.globals[2]?).map (·.type) = some 78 := by kernel_rfl
theorem tRng : (Tryz.prog.globals[3]?).map (·.type) = some 78 := by kernel_rfl
theorem cells149 : Tryz.prog.cellsOf 149 = 1 := by kernel_rfl
theorem cells9 : Tryz.prog.cellsOf 9 = 1 := by kernel_rfl
theorem star : "*" ++ "errors.errorString" = "*errors.errorString" := by decide
theorem row147 (u : TypeId) (h : Tryz.prog.typeName? 3 u = some "*errors.errorString") : u = 147 :=
  typeName_ptr_named (nm := "errors.errorString") (by rw [star]; kernel_rfl) (by kernel_rfl) (by decide) u (by rw [star]; exact h)
theorem cell_of_var {W : World} {n : String} {g : Nat} {v : Value} (hg : Tryz.prog.globalNamed n = some g) (h : W.var? Tryz.prog n = some #[v]) : W.cell? ⟨g, 0, none⟩ = some v := by
  simpa using World.var?_cell hg h 0

theorem env_of {W : World} (hL : laidMetH Tryz.prog seatLaid W) (_hsh : W.ShapedOpen Tryz.prog) : Env W := by
  rw [MakeChecks.laidMetH_plain _ _ _ (by kernel_rfl)] at hL
  have h3 := laidMet.tail (laidMet.tail hL)
  have h5 := laidMet.tail (laidMet.tail h3)
  have h6 := laidMet.tail h5
  rw [pow_eq] at h3
  obtain ⟨a5, s5, hv5, _⟩ := laid_sentinel h5 gRng tRng Tryz.underlying78 row147 Tryz.underlying147 Tryz.underlying149 rfl rfl Tryz.underlying9 cells149 cells9
  obtain ⟨a6, s6, hv6, _⟩ := laid_sentinel h6 gSyn tSyn Tryz.underlying78 row147 Tryz.underlying147 Tryz.underlying149 rfl rfl Tryz.underlying9 cells149 cells9
  exact ⟨⟨⟨_, cell_of_var gSyn hv6, .inr ⟨_, _, rfl⟩⟩, ⟨_, cell_of_var gRng hv5, .inr ⟨_, _, rfl⟩⟩⟩, Lib.tabIs_of_head gPow4 tPow Tryz.underlying142 Tryz.underlying48 cells48 cells142 h3⟩

theorem read_of {P : Program} {ts : List TypeId} (h : (ts.all fun t => P.readableRec t && decide (t < P.types.size)) = true) : ∀ t ∈ ts, P.readableRec t = true ∧ t < P.types.size := by
  intro t ht
  have := List.all_eq_true.1 h t ht
  simpa using this

theorem door_met (os : Os) (args : Array Value) : laidMetH Tryz.prog seatLaid ((World.laidAll Tryz.prog os seatLaid).forCall (fun _ _ => 0) ⟨#[], args, []⟩).memory := by
  rw [MakeChecks.laidMetH_plain _ _ _ (by kernel_rfl)]
  exact laidMet_laidAll _ (by kernel_rfl) (by kernel_rfl)

end Go.Proofs.YtlbpeknncakfeaaGreatDoor

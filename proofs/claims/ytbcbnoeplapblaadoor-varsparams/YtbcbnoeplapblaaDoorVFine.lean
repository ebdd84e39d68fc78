/-
  What the listed variables give the walks; the numbers and the rooms of the calls that come in.
-/
import Derived.Test.YtbcbnoeplapblaaDoorVStart
import Derived.Test.YtbcbnoeplapblaaDoorVParams
namespace Go.Proofs.YtbcbnoeplapblaaDoor
open Go.ChangeShapes Go.WideShapes Go.ChangeAt Go.RowKit

theorem pow_eq : (Rows.laid_internal_strconv_uint64pow10 : DataW Unit) = Lib.tabData .u64 Lib.pow10Tab := by kernel_rfl
theorem gP : Tryd.prog.globalNamed "internal/strconv.uint64pow10" = some 0 := by kernel_rfl
theorem tP : (Tryd.prog.globals[0]?).map (·.type) = some 132 := by kernel_rfl
theorem cTab : Tryd.prog.cellsOf 132 = 20 := by kernel_rfl
theorem cU64 : Tryd.prog.cellsOf 118 = 1 := by kernel_rfl
theorem tab_of {W : World} (hL : laidMetH Tryd.prog seatLaid W) : Pow W := by
  rw [MakeChecks.laidMetH_plain _ _ _ (by kernel_rfl)] at hL
  have h3 := laidMet.tail (laidMet.tail hL)
  rw [pow_eq] at h3
  exact Lib.tabIs_of_head gP tP Tryd.underlying132 Tryd.underlying118 cU64 cTab h3
theorem room_of {H : Type} {enc : TypeId × Value → H} {W : World} {fuel : Nat} {v : Value} {x : DataW H × List MemPlace} (h : DataW.trod enc Tryd.prog W 0 (fun _ => true) true fuel 29 [v] = some x) : RoomOk v := by
  rcases Deep.open_slice und_texts h with ⟨h0, _⟩ | ⟨a, len, cap, m, n, D, Pl, hcs, _, hl, hm, hmm, hxx, hx⟩
  · simp at h0
    subst h0
    intro a n c e
    injection e with _ e2 _
    omega
  · simp at hcs
    subst hcs
    intro a n c e
    injection e with _ e2 e3
    omega
theorem wf_range {m : Int} (h : (Lit.int .i64 m).wf = true) : -9223372036854775808 ≤ m ∧ m ≤ 9223372036854775807 := by
  simp [Lit.wf] at h
  have h1 : IntKind.i64.min = -9223372036854775808 := by decide
  rw [h1] at h
  exact h
set_option maxRecDepth 20000 in
set_option maxHeartbeats 1000000 in
theorem ops_fine {H : Type} {enc : TypeId × Value → H} {W : World} {v : Value} {d : DataW H} {p : List MemPlace} (hok : ∃ a len cap, v = .slice a len cap) (h : DataW.Trod enc Tryd.prog W 0 (fun _ => true) true 22 v d p) : OpsFine W v := by
  obtain ⟨a0, len0, cap0, rfl⟩ := hok
  obtain ⟨fuel, h⟩ := h
  have h : DataW.trod enc Tryd.prog W 0 (fun _ => true) true fuel 22 [.slice a0 len0 cap0] = some (d, p) := by simpa [Value.cells] using h
  intro g q n cap e i hi
  injection e with e1 e2 e3
  subst e1 e2 e3
  rcases Deep.open_slice und_ops h with ⟨h0, _⟩ | ⟨a, len, cap, m, n, D, Pl, hcs, _, hl, hm, hmm, hxx, hx⟩
  · simp at h0
  · simp at hcs
    obtain ⟨hcs1, hcs2, hcs3⟩ := hcs
    subst hcs1 hcs2 hcs3
    rw [if_pos rfl] at hmm
    subst hmm
    obtain ⟨cs, h1, h2⟩ := hx i (by omega)
    rw [cOp] at h1
    obtain ⟨_, hlen, hcell⟩ := World.cells?_some h1
    obtain ⟨xs, k, hk, hxy, _, hxl, hf⟩ := DataW.trod_struct Tryd.underlying35 h2
    match xs, hxl, cs, hlen with
    | [y0, y1, y2, y3, y4], _, [v0, v1, v2, v3, v4], _ =>
      have g3 := hf 3 _ rfl
      have g4 := hf 4 _ rfl
      simp [c3, c29] at g3 g4
      have e3 := hcell 3 (by omega)
      have e4 := hcell 4 (by omega)
      rw [Deep.add_add] at e3 e4
      obtain ⟨z3, hz3, _, hwf⟩ := DataW.trod_int Tryd.underlying3 g3
      have hrm := room_of g4
      simp at e3 e4 hz3
      rw [add_at2, ← Nat.add_assoc] at e3 e4
      refine ⟨fun mm hm' => ?_, fun u hu => ?_⟩
      · rw [e3, hz3] at hm'
        injection hm' with hm'
        injection hm' with _ hm'
        rw [← hm']
        exact wf_range hwf
      · rw [e4] at hu
        injection hu with hu
        rw [← hu]
        exact hrm

end Go.Proofs.YtbcbnoeplapblaaDoor

/-
  What the listed tables and the world's shape give the walks ('WEnv'), and the parts of the frame that all laws of this seat share.
-/
import Derived.Test.YtodcfgbcigjjfaaDoorWAwake
import Derived.Test.YtodcfgbcigjjfaaDoorFrame
import Derived.Test.YtodcfgbcigjjfaaDoorTie
import Derived.Test.YtodcfgbcigjjfaaDoorCards
import Derived.Stop.LaidErr
import Derived.Lib.LaidTab
import Derived.Lib.SmallJoins
import Derived.ChangeMaps5
namespace Go.Proofs.YtodcfgbcigjjfaaDoor
open Go.ChangeShapes Go.WideShapes Go.ChangeAt Go.RowKit Go.Joins

/-- The list of all rows of this seat. -/
def seatLaid : List (String × DataW Unit) := [("unicode/utf8.acceptRanges", Rows.laid_unicode_utf8_acceptRanges), ("conch/word.signs", Rows.laid_conch_word_signs), ("conch/word.rules", Rows.laid_conch_word_rules), ("unicode/utf8.first", Rows.laid_unicode_utf8_first)]

theorem own : ownKnob Tryd.prog.godebug = none := by kernel_rfl
theorem laidOut : laidOutB Tryd.prog = true := by kernel_rfl
def sgnD {H : Type} : DataW H := .agg (sgnT.map fun x => .agg [.lit (.string x.1), .lit (.int .i64 x.2)])
theorem sgn_eqD : (Rows.laid_conch_word_signs : DataW Unit) = sgnD := by kernel_rfl
def rulT : List (Bool × Bool × Bool × List UInt8) := (List.range 6).map fun k => (sngW k, dblW k, allW k, escL k)
def rulD {H : Type} : DataW H := .agg (rulT.map fun x => .agg [.lit (.bool x.1), .lit (.bool x.2.1), .lit (.bool x.2.2.1), .lit (.string x.2.2.2)])
theorem rul_eqD : (Rows.laid_conch_word_rules : DataW Unit) = rulD := by kernel_rfl
theorem ba_of {s : ByteArray} {z : List UInt8} (h : s.data.toList = z) : s = BA z := by rw [← h]; rfl
theorem get_dt {cs : List Value} {a b : Nat} {x : Value} (h : (cs.drop a).take b = [x]) : cs[a]? = some x := by
  have := congrArg (·[0]?) h
  rw [List.getElem?_take] at this
  split at this
  · simpa [List.getElem?_drop] using this
  · cases this
theorem cSG : Tryd.prog.cellsOf 96 = 2 := by kernel_rfl
theorem cRG : Tryd.prog.cellsOf 84 = 4 := by kernel_rfl
theorem c9 : Tryd.prog.cellsOf 9 = 1 := by kernel_rfl
theorem c3 : Tryd.prog.cellsOf 3 = 1 := by kernel_rfl
theorem c4 : Tryd.prog.cellsOf 4 = 1 := by kernel_rfl
theorem drop_get {cs : List Value} {a b j : Nat} {x : Value} (h : ((cs.drop a).take b)[j]? = some x) : cs[a + j]? = some x := by
  rw [List.getElem?_take] at h
  split at h
  · rwa [List.getElem?_drop] at h
  · cases h
theorem sgn_cells {H : Type} {enc : TypeId × Value → H} {w : World} {base : Nat} {sp : Nat → Bool} {held : Bool} {fuel : Nat} {cs : List Value} {p : List MemPlace} (h : DataW.trod enc Tryd.prog w base sp held fuel 97 cs = some (sgnD, p)) :
    ∀ (i : Nat) (x : List UInt8 × Int), sgnT[i]? = some x → cs[i * 2]? = some (.string (BA x.1)) ∧ cs[i * 2 + 1]? = some (.int .i64 x.2) := by
  intro i x hi
  obtain ⟨xs, m, _, hx, _, hn, hf⟩ := DataW.trod_array Tryd.underlying97 h
  have hlt : i < 8 := (List.getElem?_eq_some_iff.1 hi).1
  have hx1 : xs.map (·.1) = sgnT.map fun x => .agg [.lit (.string x.1), .lit (.int .i64 x.2)] := by
    have := congrArg Prod.fst hx
    simp only [sgnD] at this
    injection this with this
    exact this.symm
  have hxi : (xs[i]?).map (·.1) = some (.agg [.lit (.string x.1), .lit (.int .i64 x.2)]) := by rw [← List.getElem?_map, hx1, List.getElem?_map, hi]; rfl
  obtain ⟨y, hy, hy1⟩ := Option.map_eq_some_iff.1 hxi
  have hf1 := hf i hlt
  rw [hy, cSG] at hf1
  obtain ⟨y0, y1, m2, hyy, _, g0, g1⟩ := trod_struct2 Tryd.underlying96 hf1
  rw [hyy] at hy1
  simp only [DataW.agg.injEq, List.cons.injEq, and_true] at hy1
  obtain ⟨s, hs, rfl, _⟩ := DataW.trod_string Tryd.underlying9 g0
  obtain ⟨n, hn', rfl, _⟩ := DataW.trod_int Tryd.underlying3 g1
  simp only [DataW.lit.injEq, Lit.string.injEq, Lit.int.injEq, true_and] at hy1
  rw [c9] at hs
  rw [c3] at hn'
  have e0 := get_dt hs
  have e1 := get_dt hn'
  rw [← ba_of hy1.1, ← hy1.2]
  exact ⟨drop_get (j := 0) e0, drop_get (j := 1) e1⟩
theorem rul_cells {H : Type} {enc : TypeId × Value → H} {w : World} {base : Nat} {sp : Nat → Bool} {held : Bool} {fuel : Nat} {cs : List Value} {p : List MemPlace} (h : DataW.trod enc Tryd.prog w base sp held fuel 85 cs = some (rulD, p)) :
    ∀ (i : Nat) (x : Bool × Bool × Bool × List UInt8), rulT[i]? = some x → cs[i * 4]? = some (.bool x.1) ∧ cs[i * 4 + 1]? = some (.bool x.2.1) ∧ cs[i * 4 + 2]? = some (.bool x.2.2.1) ∧ cs[i * 4 + 3]? = some (.string (BA x.2.2.2)) := by
  intro i x hi
  obtain ⟨xs, m, _, hx, _, hn, hf⟩ := DataW.trod_array Tryd.underlying85 h
  have hlt : i < 6 := by have := (List.getElem?_eq_some_iff.1 hi).1; simpa [rulT] using this
  have hx1 : xs.map (·.1) = rulT.map fun x => .agg [.lit (.bool x.1), .lit (.bool x.2.1), .lit (.bool x.2.2.1), .lit (.string x.2.2.2)] := by
    have := congrArg Prod.fst hx
    simp only [rulD] at this
    injection this with this
    exact this.symm
  have hxi : (xs[i]?).map (·.1) = some (.agg [.lit (.bool x.1), .lit (.bool x.2.1), .lit (.bool x.2.2.1), .lit (.string x.2.2.2)]) := by rw [← List.getElem?_map, hx1, List.getElem?_map, hi]; rfl
  obtain ⟨y, hy, hy1⟩ := Option.map_eq_some_iff.1 hxi
  have hf1 := hf i hlt
  rw [hy, cRG] at hf1
  obtain ⟨y0, y1, y2, y3, m2, hyy, _, g0, g1, g2, g3⟩ := trod_struct4 Tryd.underlying84 hf1
  rw [hyy] at hy1
  simp only [DataW.agg.injEq, List.cons.injEq, and_true] at hy1
  obtain ⟨b0, h0, rfl⟩ := DataW.trod_bool Tryd.underlying4 g0
  obtain ⟨b1, h1, rfl⟩ := DataW.trod_bool Tryd.underlying4 g1
  obtain ⟨b2, h2, rfl⟩ := DataW.trod_bool Tryd.underlying4 g2
  obtain ⟨s, h3, rfl, _⟩ := DataW.trod_string Tryd.underlying9 g3
  simp only [DataW.lit.injEq, Lit.string.injEq, Lit.bool.injEq] at hy1
  rw [c4] at h0 h1 h2
  rw [c9] at h3
  obtain ⟨q0, q1, q2, q3⟩ := hy1
  rw [← ba_of q3, ← q0, ← q1, ← q2]
  exact ⟨drop_get (j := 0) (get_dt h0), drop_get (j := 1) (get_dt h1), drop_get (j := 2) (get_dt h2), drop_get (j := 3) (get_dt h3)⟩
theorem gSg : Tryd.prog.globalNamed "conch/word.signs" = some 1 := by kernel_rfl
theorem tSg : (Tryd.prog.globals[1]?).map (·.type) = some 97 := by kernel_rfl
theorem gRu : Tryd.prog.globalNamed "conch/word.rules" = some 0 := by kernel_rfl
theorem tRu : (Tryd.prog.globals[0]?).map (·.type) = some 85 := by kernel_rfl
theorem sgn_of {W : World} {rest : List (String × DataW Unit)} (h : laidMet Tryd.prog (("conch/word.signs", sgnD) :: rest) W) : ∀ (i : Nat) (x : List UInt8 × Int), sgnT[i]? = some x → W.cell? ⟨1, i * 2, none⟩ = some (.string (BA x.1)) ∧ W.cell? ⟨1, i * 2 + 1, none⟩ = some (.int .i64 x.2) := by
  obtain ⟨ps, ⟨g', t', cs, fuel, p, q, hg', ht', hvar, hd, _, _⟩, _⟩ := h
  obtain rfl := Option.some.inj (gSg.symm.trans hg')
  obtain rfl := Option.some.inj (tSg.symm.trans ht')
  intro i x hi
  have hc := sgn_cells hd i x hi
  have hv := World.var?_cell gSg hvar
  exact ⟨by rw [hv, ← Array.getElem?_toList]; exact hc.1, by rw [hv, ← Array.getElem?_toList]; exact hc.2⟩
theorem rul_of {W : World} {rest : List (String × DataW Unit)} (h : laidMet Tryd.prog (("conch/word.rules", rulD) :: rest) W) : ∀ (i : Nat) (x : Bool × Bool × Bool × List UInt8), rulT[i]? = some x → W.cell? ⟨0, i * 4, none⟩ = some (.bool x.1) ∧ W.cell? ⟨0, i * 4 + 1, none⟩ = some (.bool x.2.1) ∧ W.cell? ⟨0, i * 4 + 2, none⟩ = some (.bool x.2.2.1) ∧ W.cell? ⟨0, i * 4 + 3, none⟩ = some (.string (BA x.2.2.2)) := by
  obtain ⟨ps, ⟨g', t', cs, fuel, p, q, hg', ht', hvar, hd, _, _⟩, _⟩ := h
  obtain rfl := Option.some.inj (gRu.symm.trans hg')
  obtain rfl := Option.some.inj (tRu.symm.trans ht')
  intro i x hi
  have hc := rul_cells hd i x hi
  have hv := World.var?_cell gRu hvar
  exact ⟨by rw [hv, ← Array.getElem?_toList]; exact hc.1, by rw [hv, ← Array.getElem?_toList]; exact hc.2.1, by rw [hv, ← Array.getElem?_toList]; exact hc.2.2.1, by rw [hv, ← Array.getElem?_toList]; exact hc.2.2.2⟩
theorem max_of (W : World) (h : W.ShapedOpen Tryd.prog) : ∃ m : Int, W.cell? ⟨2, 0, none⟩ = some (.int .i64 m) :=
  Go.Proofs.cell_of_shapedOpen_int (zero := #[.int .i64 0]) (t := 3) h (of_decide_eq_true (by kernel_rfl)) (by kernel_rfl) rfl (by kernel_rfl) (by kernel_rfl) Tryd.underlying3
theorem rulT_at (k : Nat) (hk : k < 6) : rulT[k]? = some (sngW k, dblW k, allW k, escL k) := by
  unfold rulT
  rw [List.getElem?_map, List.getElem?_range hk]
  rfl
theorem env_of {W : World} (hL : laidMetH Tryd.prog seatLaid W) (hsh : W.ShapedOpen Tryd.prog) : WEnv W := by
  rw [MakeChecks.laidMetH_plain _ _ _ (by kernel_rfl)] at hL
  have h2 := laidMet.tail hL
  have h3 := laidMet.tail h2
  rw [sgn_eqD] at h2
  rw [rul_eqD] at h3
  have hs := sgn_of h2
  have hr := rul_of h3
  obtain ⟨m, hm⟩ := max_of W hsh
  refine ⟨fun k hk => (hr k _ (rulT_at k hk)).1, fun k hk => (hr k _ (rulT_at k hk)).2.1, fun k hk => (hr k _ (rulT_at k hk)).2.2.1, fun k hk => (hr k _ (rulT_at k hk)).2.2.2, fun j hj => ?_, ⟨m, hm⟩, ?_⟩
  · have hj' : j = 0 ∨ j = 1 ∨ j = 2 ∨ j = 3 ∨ j = 4 ∨ j = 5 ∨ j = 6 ∨ j = 7 ∨ j = 8 ∨ j = 9 ∨ j = 10 ∨ j = 11 ∨ j = 12 ∨ j = 13 ∨ j = 14 ∨ j = 15 := by omega
    rcases hj' with rfl | rfl | rfl | rfl | rfl | rfl | rfl | rfl | rfl | rfl | rfl | rfl | rfl | rfl | rfl | rfl
    · exact (hs 0 _ rfl).1
    · exact (hs 0 _ rfl).2
    · exact (hs 1 _ rfl).1
    · exact (hs 1 _ rfl).2
    · exact (hs 2 _ rfl).1
    · exact (hs 2 _ rfl).2
    · exact (hs 3 _ rfl).1
    · exact (hs 3 _ rfl).2
    · exact (hs 4 _ rfl).1
    · exact (hs 4 _ rfl).2
    · exact (hs 5 _ rfl).1
    · exact (hs 5 _ rfl).2
    · exact (hs 6 _ rfl).1
    · exact (hs 6 _ rfl).2
    · exact (hs 7 _ rfl).1
    · exact (hs 7 _ rfl).2
  · rcases Nat.lt_or_ge 2 W.heap.size with h' | h'
    · exact h'
    · have e : W.heap[2]? = none := Array.getElem?_eq_none h'
      unfold World.cell? at hm
      rw [e] at hm
      cases hm

theorem read_of {P : Program} {ts : List TypeId} (h : (ts.all fun t => P.readableRec t && decide (t < P.types.size)) = true) : ∀ t ∈ ts, P.readableRec t = true ∧ t < P.types.size := by
  intro t ht
  have := List.all_eq_true.1 h t ht
  simpa using this

theorem door_met (os : Os) (args : Array Value) : laidMetH Tryd.prog seatLaid ((World.laidAll Tryd.prog os seatLaid).forCall (fun _ _ => 0) ⟨#[], args, []⟩).memory := by
  rw [MakeChecks.laidMetH_plain _ _ _ (by kernel_rfl)]
  exact laidMet_laidAll _ (by kernel_rfl) (by kernel_rfl)

end Go.Proofs.YtodcfgbcigjjfaaDoor

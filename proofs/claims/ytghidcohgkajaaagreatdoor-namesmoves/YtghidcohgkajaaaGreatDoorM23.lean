/-
  What all laws of this seat share: the frame, the listed variables, the arguments that came in.
  NamesNil: a nil tree has nothing.
-/
import Derived.Test.YtghidcohgkajaaaGreatDoorM22
import Derived.Test.YtghidcohgkajaaaGreatDoorTie
import Derived.Test.YtghidcohgkajaaaGreatDoorCards
import Derived.Deep.Slices
import Derived.SliceStrings
import Derived.Stop.LaidErr
import Derived.Lib.LaidTab

/- What all laws of this seat share: the frame, the listed variables, the arguments that came in. -/
namespace Go.Proofs.YtghidcohgkajaaaGreatDoor
open Go.ChangeShapes Go.WideShapes Go.ChangeAt Go.RowKit

/-- The listed variables of the rows: all, and those of NamesTree. -/
def seatLaid : List (String × DataW Unit) := [("math/bits.deBruijn32tab", Rows.laid_math_bits_deBruijn32tab), ("math/bits.deBruijn64tab", Rows.laid_math_bits_deBruijn64tab), ("internal/strconv.uint64pow10", Rows.laid_internal_strconv_uint64pow10), ("unicode/utf8.acceptRanges", Rows.laid_unicode_utf8_acceptRanges), ("unicode/utf8.first", Rows.laid_unicode_utf8_first)]
def seatLaid2 : List (String × DataW Unit) := [("unicode/utf8.acceptRanges", Rows.laid_unicode_utf8_acceptRanges), ("unicode/utf8.first", Rows.laid_unicode_utf8_first)]
theorem own : ownKnob Tryz.prog.godebug = none := by kernel_rfl
theorem laidOut : laidOutB Tryz.prog = true := by kernel_rfl
theorem read_of {P : Program} {ts : List TypeId} (h : (ts.all fun t => P.readableRec t && decide (t < P.types.size)) = true) : ∀ t ∈ ts, P.readableRec t = true ∧ t < P.types.size := by
  intro t ht
  have := List.all_eq_true.1 h t ht
  simpa using this
theorem door_met (os : Os) (args : Array Value) : laidMetH Tryz.prog seatLaid ((World.laidAll Tryz.prog os seatLaid).forCall (fun _ _ => 0) ⟨#[], args, []⟩).memory := by
  rw [MakeChecks.laidMetH_plain _ _ _ (by kernel_rfl)]
  exact laidMet_laidAll _ (by kernel_rfl) (by kernel_rfl)
theorem door_met2 (os : Os) (args : Array Value) : laidMetH Tryz.prog seatLaid2 ((World.laidAll Tryz.prog os seatLaid2).forCall (fun _ _ => 0) ⟨#[], args, []⟩).memory := by
  rw [MakeChecks.laidMetH_plain _ _ _ (by kernel_rfl)]
  exact laidMet_laidAll _ (by kernel_rfl) (by kernel_rfl)
theorem pow_eq : (Rows.laid_internal_strconv_uint64pow10 : DataW Unit) = Lib.tabData .u64 Lib.pow10Tab := by kernel_rfl
theorem gP : Tryz.prog.globalNamed "internal/strconv.uint64pow10" = some 1 := by kernel_rfl
theorem tP : (Tryz.prog.globals[1]?).map (·.type) = some 268 := by kernel_rfl
theorem cTab : Tryz.prog.cellsOf 268 = 20 := by kernel_rfl
theorem cU64 : Tryz.prog.cellsOf 241 = 1 := by kernel_rfl
theorem pow_of {W : World} (hL : laidMetH Tryz.prog seatLaid W) : PowB (Bas.of W) := by
  rw [MakeChecks.laidMetH_plain _ _ _ (by kernel_rfl)] at hL
  have h3 := laidMet.tail (laidMet.tail hL)
  rw [pow_eq] at h3
  exact Lib.tabIs_of_head gP tP Tryz.underlying268 Tryz.underlying241 cU64 cTab h3
theorem max_of (W : World) (h : W.ShapedOpen Tryz.prog) : ∃ m : Int, W.cell? ⟨0, 0, none⟩ = some (.int .i64 m) :=
  Go.Proofs.cell_of_shapedOpen_int (zero := #[.int .i64 0]) (t := 3) h (of_decide_eq_true (by kernel_rfl)) (by kernel_rfl) rfl (by kernel_rfl) (by kernel_rfl) Tryz.underlying3
theorem env_of {W : World} (h : W.ShapedOpen Tryz.prog) : EnvB W (Bas.of W) := ⟨max_of W h, Below.refl _ _, grownS_of_below (Below.refl _ _), fun _ h => h⟩
theorem cells9 : Tryz.prog.cellsOf 9 = 1 := by kernel_rfl
theorem cells3 : Tryz.prog.cellsOf 3 = 1 := by kernel_rfl
theorem cell_lt {W : World} {p : Addr} {v : Value} (h : W.cell? p = some v) : p.block < W.heap.size := by
  rcases Nat.lt_or_ge p.block W.heap.size with h' | h'
  · exact h'
  · unfold World.cell? at h
    rw [Array.getElem?_eq_none h'] at h
    cases h
theorem add_at2 (b o j : Nat) : ((⟨b, o, none⟩ : Addr).add j) = ⟨b, o + j, none⟩ := by
  by_cases h : j = 0
  · subst h; simp [Addr.add]
  · simp [Addr.add, h]
theorem i64_of {x : Int} (h : (Lit.int .i64 x).wf = true) : I64 x := bounds_i64 h
def OCell (w : World) (g k : Nat) (o : Op13) : Prop := w.cell? ⟨g, k, none⟩ = some (.int .i64 o.ask) ∧ w.cell? ⟨g, k + 1, none⟩ = some (.int .i64 o.dir) ∧ w.cell? ⟨g, k + 2, none⟩ = some (.string (BA o.path)) ∧ w.cell? ⟨g, k + 3, none⟩ = some (.string (BA o.tgt)) ∧ w.cell? ⟨g, k + 4, none⟩ = some (.int .i64 o.n)
/-- A slice of calls. -/
def ORow (w : World) (v : Value) (l : List Op13) : Prop := ∃ ad cap, v = .slice ad l.length cap ∧ ∀ (i : Nat) (x : Op13), l[i]? = some x → (∃ g o, ad = some ⟨g, o, none⟩ ∧ g < w.heap.size ∧ OCell w g (o + i * 5) x) ∧ x.ok
theorem cellsO : Tryz.prog.cellsOf 33 = 5 := by kernel_rfl
variable {H : Type} {enc : TypeId × Value → H}
/- A slice of calls that came in. -/
set_option maxRecDepth 100000 in
theorem opsrow_of {W : World} {v : Value} {d : DataW H} {p : List MemPlace} (hok : ∃ a len cap, v = .slice a len cap) (h : DataW.Trod enc Tryz.prog W 0 (fun _ => true) true 23 v d p) : ∃ l, ORow W v l ∧ l.length ≤ maxLen := by
  obtain ⟨a0, len0, cap0, rfl⟩ := hok
  obtain ⟨fuel, h⟩ := h
  rcases Deep.open_slice Tryz.underlying23 h with ⟨h0, _⟩ | ⟨a, len, cap, m, n, D, Pl, hcs, _, hl, hm, hmm, _, hx⟩
  · simp [Value.cells] at h0
    obtain ⟨rfl, rfl, rfl⟩ := h0
    exact ⟨[], ⟨none, 0, rfl, fun i x hi => by simp at hi⟩, Nat.zero_le _⟩
  · simp [Value.cells] at hcs
    obtain ⟨rfl, rfl, rfl⟩ := hcs
    rw [if_pos rfl] at hmm
    subst hmm
    by_cases h0 : len0 = 0
    · subst h0
      exact ⟨[], ⟨some a, m, rfl, fun i x hi => by simp at hi⟩, Nat.zero_le _⟩
    have each : ∀ i, ∃ y : Op13, i < len0 → (W.cell? (a.add (i * 5)) = some (.int .i64 y.ask) ∧ W.cell? (a.add (i * 5 + 1)) = some (.int .i64 y.dir) ∧ W.cell? (a.add (i * 5 + 2)) = some (.string (BA y.path)) ∧ W.cell? (a.add (i * 5 + 3)) = some (.string (BA y.tgt)) ∧ W.cell? (a.add (i * 5 + 4)) = some (.int .i64 y.n)) ∧ y.ok := by
      intro i
      by_cases hi : i < len0
      · obtain ⟨cs, h1, h2⟩ := hx i (by omega)
        rw [cellsO] at h1
        obtain ⟨_, hlen, hcell⟩ := World.cells?_some h1
        obtain ⟨xs, k, hk, hxy, _, hxl, hf⟩ := DataW.trod_struct Tryz.underlying33 h2
        match xs, hxl, cs, hlen with
        | [y0, y1, y2, y3, y4], _, [v0, v1, v2, v3, v4], _ =>
          have g0 := hf 0 _ rfl
          have g1 := hf 1 _ rfl
          have g2 := hf 2 _ rfl
          have g3 := hf 3 _ rfl
          have g4 := hf 4 _ rfl
          simp [cells9, cells3] at g0 g1 g2 g3 g4
          have e0 := hcell 0 (by omega)
          have e1 := hcell 1 (by omega)
          have e2 := hcell 2 (by omega)
          have e3 := hcell 3 (by omega)
          have e4 := hcell 4 (by omega)
          rw [Deep.add_add] at e0 e1 e2 e3 e4
          obtain ⟨z0, hz0, _, hy0⟩ := DataW.trod_int Tryz.underlying3 g0
          obtain ⟨z1, hz1, _, hy1⟩ := DataW.trod_int Tryz.underlying3 g1
          obtain ⟨z2, hz2, _⟩ := DataW.trod_string Tryz.underlying9 g2
          obtain ⟨z3, hz3, _⟩ := DataW.trod_string Tryz.underlying9 g3
          obtain ⟨z4, hz4, _, hy4⟩ := DataW.trod_int Tryz.underlying3 g4
          simp at hz0 hz1 hz2 hz3 hz4
          subst hz0 hz1 hz2 hz3 hz4
          exact ⟨⟨z0, z1, z2.data.toList, z3.data.toList, z4⟩, fun _ => ⟨⟨by simpa using e0, by simpa using e1, by simpa [BA_of] using e2, by simpa [BA_of] using e3, by simpa using e4⟩, i64_of hy0, i64_of hy1, i64_of hy4⟩⟩
      · exact ⟨⟨0, 0, [], [], 0⟩, fun h => absurd h hi⟩
    obtain ⟨R, hR⟩ : ∃ R : Nat → Op13, ∀ i, i < len0 → (W.cell? (a.add (i * 5)) = some (.int .i64 (R i).ask) ∧ W.cell? (a.add (i * 5 + 1)) = some (.int .i64 (R i).dir) ∧ W.cell? (a.add (i * 5 + 2)) = some (.string (BA (R i).path)) ∧ W.cell? (a.add (i * 5 + 3)) = some (.string (BA (R i).tgt)) ∧ W.cell? (a.add (i * 5 + 4)) = some (.int .i64 (R i).n)) ∧ (R i).ok := ⟨fun i => Classical.choose (each i), fun i => Classical.choose_spec (each i)⟩
    obtain ⟨b, o, spot⟩ := a
    have hspot : spot = none := by simpa [Addr.add] using World.cell?_spot (hR 0 (by omega)).1.1
    subst hspot
    refine ⟨(List.range len0).map R, ⟨some ⟨b, o, none⟩, m, by simp, fun j x hj => ?_⟩, by simp; omega⟩
    rw [List.getElem?_map] at hj
    obtain ⟨y, hy, rfl⟩ := Option.map_eq_some_iff.1 hj
    obtain ⟨hj', e⟩ := List.getElem?_eq_some_iff.1 hy
    simp at hj' e
    subst e
    have := hR j hj'
    rw [add_at2, add_at2, add_at2, add_at2, add_at2] at this
    exact ⟨⟨b, o, rfl, cell_lt this.1.1, this.1⟩, this.2⟩
/- One call that came in. -/
set_option maxRecDepth 100000 in
theorem op_of {W : World} {v : Value} {d : DataW H} {p : List MemPlace} (h : DataW.Trod enc Tryz.prog W 0 (fun _ => true) true 33 v d p) (hv : ∃ cs, v = .agg cs ∧ cs.size = Tryz.prog.cellsOf 33) : ∃ o : Op13, v = o.val ∧ o.ok := by
  obtain ⟨⟨cs⟩, rfl, hsz⟩ := hv
  rw [cellsO] at hsz
  obtain ⟨fuel, h⟩ := h
  obtain ⟨xs, k, hk, hxy, _, hxl, hf⟩ := DataW.trod_struct Tryz.underlying33 h
  match xs, hxl, cs, hsz with
  | [y0, y1, y2, y3, y4], _, [v0, v1, v2, v3, v4], _ =>
    have g0 := hf 0 _ rfl
    have g1 := hf 1 _ rfl
    have g2 := hf 2 _ rfl
    have g3 := hf 3 _ rfl
    have g4 := hf 4 _ rfl
    simp [cells9, cells3, Value.cells] at g0 g1 g2 g3 g4
    obtain ⟨z0, hz0, _, hy0⟩ := DataW.trod_int Tryz.underlying3 g0
    obtain ⟨z1, hz1, _, hy1⟩ := DataW.trod_int Tryz.underlying3 g1
    obtain ⟨z2, hz2, _⟩ := DataW.trod_string Tryz.underlying9 g2
    obtain ⟨z3, hz3, _⟩ := DataW.trod_string Tryz.underlying9 g3
    obtain ⟨z4, hz4, _, hy4⟩ := DataW.trod_int Tryz.underlying3 g4
    simp at hz0 hz1 hz2 hz3 hz4
    subst hz0 hz1 hz2 hz3 hz4
    exact ⟨⟨z0, z1, z2.data.toList, z3.data.toList, z4⟩, rfl, i64_of hy0, i64_of hy1, i64_of hy4⟩

end Go.Proofs.YtghidcohgkajaaaGreatDoor

/- NamesNil: a nil tree has nothing. -/
namespace Go.Proofs.YtghidcohgkajaaaGreatDoor
open Go.RowKit Go.Maps

set_option maxRecDepth 20000 in
set_option maxHeartbeats 1000000 in
theorem walk_nil (d : Int) (p : List UInt8) (fl : Bool) (w : World) : Calls Tryz.prog 24 #[.pointer none, .int .i64 d, .string (BA p), .bool fl] w fun e w' => e = .returned (.tuple #[.int .i64 0, .int .i64 2]) ∧ w' = w := by
  go_enter Tryz.func24, Tryz.ntmps24
  go_wp2_with fail
  refine (refuse_nil d w).mono ?_
  rintro e w1 ⟨rfl, rfl⟩
  go_wp2_with fail
  go_ret2
  exact ⟨rfl, rfl⟩
set_option maxRecDepth 20000 in
set_option maxHeartbeats 1000000 in
theorem make_nil (d : Int) (p : List UInt8) (w : World) : Calls Tryz.prog 15 #[.pointer none, .int .i64 d, .string (BA p)] w fun e w' => e = .returned (.tuple #[.int .i64 0, .int .i64 2]) ∧ w' = w := by
  go_enter Tryz.func15, Tryz.ntmps15
  go_wp2_with fail
  refine (refuse_nil d w).mono ?_
  rintro e w1 ⟨rfl, rfl⟩
  go_wp2_with fail
  go_ret2
  exact ⟨rfl, rfl⟩
set_option maxRecDepth 20000 in
set_option maxHeartbeats 1000000 in
theorem mkdir_nil (d : Int) (p : List UInt8) (w : World) : Calls Tryz.prog 40 #[.pointer none, .int .i64 d, .string (BA p)] w fun e w' => e = .returned (.int .i64 2) ∧ w' = w := by
  go_enter Tryz.func40, Tryz.ntmps40
  go_wp2_with fail
  refine (refuse_nil d w).mono ?_
  rintro e w1 ⟨rfl, rfl⟩
  go_wp2_with fail
  go_ret
  exact ⟨rfl, rfl⟩
set_option maxRecDepth 20000 in
set_option maxHeartbeats 1000000 in
theorem symlink_nil (d : Int) (t p : List UInt8) (w : World) : Calls Tryz.prog 41 #[.pointer none, .int .i64 d, .string (BA t), .string (BA p)] w fun e w' => e = .returned (.int .i64 2) ∧ w' = w := by
  go_enter Tryz.func41, Tryz.ntmps41
  go_wp2_with fail
  refine (refuse_nil d w).mono ?_
  rintro e w1 ⟨rfl, rfl⟩
  go_wp2_with fail
  go_ret
  exact ⟨rfl, rfl⟩
set_option maxRecDepth 20000 in
set_option maxHeartbeats 1000000 in
theorem link_nil (d : Int) (t p : List UInt8) (w : World) : Calls Tryz.prog 42 #[.pointer none, .int .i64 d, .string (BA t), .string (BA p)] w fun e w' => e = .returned (.int .i64 2) ∧ w' = w := by
  go_enter Tryz.func42, Tryz.ntmps42
  go_wp2_with fail
  refine (walk_nil d t false w).mono ?_
  rintro e w1 ⟨rfl, rfl⟩
  go_wp2_with fail
  go_ret
  exact ⟨rfl, rfl⟩
set_option maxRecDepth 20000 in
set_option maxHeartbeats 1000000 in
theorem rename_nil (d : Int) (t p : List UInt8) (w : World) : Calls Tryz.prog 39 #[.pointer none, .int .i64 d, .string (BA t), .string (BA p)] w fun e w' => e = .returned (.int .i64 2) ∧ w' = w := by
  go_enter Tryz.func39, Tryz.ntmps39
  go_wp2_with fail
  refine (refuse_nil d w).mono ?_
  rintro e w1 ⟨rfl, rfl⟩
  go_wp2_with fail
  go_ret
  exact ⟨rfl, rfl⟩
set_option maxRecDepth 20000 in
set_option maxHeartbeats 1000000 in
theorem nkind_nil (d : Int) (w : World) : Calls Tryz.prog 79 #[.pointer none, .int .i64 d] w fun e w' => e = .returned (.tuple #[.int .i64 0, .int .i64 2]) ∧ w' = w := by
  go_enter Tryz.func79, Tryz.ntmps79
  go_wp2_with fail
  refine (empty_nil w).mono ?_
  rintro e w1 ⟨rfl, rfl⟩
  go_wp2_with fail
  go_ret2
  exact ⟨rfl, rfl⟩
set_option maxRecDepth 20000 in
set_option maxHeartbeats 1000000 in
theorem readlink_nil (d : Int) (w : World) : Calls Tryz.prog 32 #[.pointer none, .int .i64 d] w fun e w' => e = .returned (.tuple #[.string ⟨#[]⟩, .int .i64 2]) ∧ w' = w := by
  go_enter Tryz.func32, Tryz.ntmps32
  go_wp2_with fail
  refine (nkind_nil d w).mono ?_
  rintro e w1 ⟨rfl, rfl⟩
  go_wp2_with fail
  go_ret2
  exact ⟨rfl, rfl⟩
set_option maxRecDepth 20000 in
set_option maxHeartbeats 1000000 in
theorem list_nil (d : Int) (w : World) : Calls Tryz.prog 29 #[.pointer none, .int .i64 d] w fun e w' => e = .returned (.tuple #[.slice none 0 0, .int .i64 2]) ∧ w' = w := by
  go_enter Tryz.func29, Tryz.ntmps29
  go_wp2_with fail
  refine (nkind_nil d w).mono ?_
  rintro e w1 ⟨rfl, rfl⟩
  go_wp2_with fail
  go_ret2
  exact ⟨rfl, rfl⟩
set_option maxRecDepth 20000 in
set_option maxHeartbeats 1000000 in
theorem refuseBytes_nil (d : Int) (w : World) : Calls Tryz.prog 59 #[.pointer none, .int .i64 d] w fun e w' => e = .returned (.int .i64 2) ∧ w' = w := by
  go_enter Tryz.func59, Tryz.ntmps59
  go_wp2_with fail
  refine (nkind_nil d w).mono ?_
  rintro e w1 ⟨rfl, rfl⟩
  go_wp2_with fail
  go_ret
  exact ⟨rfl, rfl⟩
set_option maxRecDepth 20000 in
set_option maxHeartbeats 1000000 in
theorem nread_nil (d a b : Int) (w : World) : Calls Tryz.prog 34 #[.pointer none, .int .i64 d, .int .i64 a, .int .i64 b] w fun e w' => e = .returned (.tuple #[.string ⟨#[]⟩, .int .i64 2]) ∧ w' = w := by
  go_enter Tryz.func34, Tryz.ntmps34
  go_wp2_with fail
  refine (refuseBytes_nil d w).mono ?_
  rintro e w1 ⟨rfl, rfl⟩
  go_wp2_with fail
  go_ret2
  exact ⟨rfl, rfl⟩
set_option maxRecDepth 20000 in
set_option maxHeartbeats 1000000 in
theorem nwrite_nil (d a : Int) (p : List UInt8) (w : World) : Calls Tryz.prog 17 #[.pointer none, .int .i64 d, .int .i64 a, .string (BA p)] w fun e w' => e = .returned (.tuple #[.int .i64 0, .int .i64 2]) ∧ w' = w := by
  go_enter Tryz.func17, Tryz.ntmps17
  go_wp2_with fail
  refine (refuseBytes_nil d w).mono ?_
  rintro e w1 ⟨rfl, rfl⟩
  go_wp2_with fail
  go_ret2
  exact ⟨rfl, rfl⟩
set_option maxRecDepth 20000 in
set_option maxHeartbeats 1000000 in
theorem cut_nil (d a : Int) (w : World) : Calls Tryz.prog 36 #[.pointer none, .int .i64 d, .int .i64 a] w fun e w' => e = .returned (.int .i64 2) ∧ w' = w := by
  go_enter Tryz.func36, Tryz.ntmps36
  go_wp2_with fail
  refine (refuseBytes_nil d w).mono ?_
  rintro e w1 ⟨rfl, rfl⟩
  go_wp2_with fail
  go_ret
  exact ⟨rfl, rfl⟩
set_option maxRecDepth 20000 in
set_option maxHeartbeats 1000000 in
theorem hold_nil (d : Int) (w : World) : Calls Tryz.prog 44 #[.pointer none, .int .i64 d] w fun e w' => e = .returned (.int .i64 2) ∧ w' = w := by
  go_enter Tryz.func44, Tryz.ntmps44
  go_wp2_with fail
  refine (empty_nil w).mono ?_
  rintro e w1 ⟨rfl, rfl⟩
  go_wp2_with fail
  go_ret
  exact ⟨rfl, rfl⟩
set_option maxRecDepth 20000 in
set_option maxHeartbeats 1000000 in
theorem loose_nil (d : Int) (w : World) : Calls Tryz.prog 45 #[.pointer none, .int .i64 d] w fun e w' => e = .returned (.int .i64 2) ∧ w' = w := by
  go_enter Tryz.func45, Tryz.ntmps45
  go_wp2_with fail
  refine (empty_nil w).mono ?_
  rintro e w1 ⟨rfl, rfl⟩
  go_wp2_with fail
  go_ret
  exact ⟨rfl, rfl⟩
set_option maxRecDepth 20000 in
set_option maxHeartbeats 1000000 in
theorem nfree_nil (w : World) : Calls Tryz.prog 20 #[.pointer none] w fun e w' => e = .returned (.tuple #[.int .i64 0, .int .i64 0]) ∧ w' = w := by
  go_enter Tryz.func20, Tryz.ntmps20
  go_wp2_with fail
  refine (empty_nil w).mono ?_
  rintro e w1 ⟨rfl, rfl⟩
  go_wp2_with fail
  go_ret2
  exact ⟨rfl, rfl⟩
set_option maxRecDepth 20000 in
set_option maxHeartbeats 1000000 in
theorem root_nil (w : World) : Calls Tryz.prog 26 #[.pointer none] w fun e w' => e = .returned (.int .i64 0) ∧ w' = w := by
  go_enter Tryz.func26, Tryz.ntmps26
  go_wp2_with fail
  refine (empty_nil w).mono ?_
  rintro e w1 ⟨rfl, rfl⟩
  go_wp2_with fail
  go_ret
  exact ⟨rfl, rfl⟩
set_option maxRecDepth 20000 in
set_option maxHeartbeats 1000000 in
theorem ncopy_nil (w : World) : Calls Tryz.prog 13 #[.pointer none] w fun e w' => e = .returned (.pointer none) ∧ w' = w := by
  go_enter Tryz.func13, Tryz.ntmps13
  go_wp2_with fail
  refine (empty_nil w).mono ?_
  rintro e w1 ⟨rfl, rfl⟩
  go_wp2_with fail
  go_ret
  exact ⟨rfl, rfl⟩
set_option maxRecDepth 20000 in
set_option maxHeartbeats 1000000 in
theorem print_nil (w : World) : Calls Tryz.prog 22 #[.pointer none] w fun e w' => e = .returned (.string ⟨#[]⟩) ∧ w' = w := by
  go_enter Tryz.func22, Tryz.ntmps22
  go_wp2_with fail
  refine (empty_nil w).mono ?_
  rintro e w1 ⟨rfl, rfl⟩
  go_wp2_with fail
  go_ret
  exact ⟨rfl, rfl⟩
set_option maxRecDepth 20000 in
set_option maxHeartbeats 1000000 in
theorem nfind_nil (d : Int) (p : List UInt8) (w : World) : Calls Tryz.prog 56 #[.pointer none, .int .i64 d, .string (BA p)] w fun e w' => e = .returned (.tuple #[.agg #[.int .i64 0, .string (BA [])], .int .i64 0, .int .i64 2]) ∧ Below w.heap.size w w' := by
  have hnew := Blk.new w 91 #[.int .i64 0, .string ⟨#[]⟩]
  have HB : Hid (Below w.heap.size w (w.alloc (.cells #[.int .i64 0, .string ⟨#[]⟩] 91))) := hide ((Below.refl _ w).alloc (Nat.le_refl _) _)
  obtain ⟨pb, hpb⟩ : ∃ pb, pb = w.heap.size := ⟨_, rfl⟩
  have HPB : Hid (w.heap.size ≤ pb) := hide (by rw [hpb]; exact Nat.le_refl _)
  have HP0 := hide hpb
  rw [← hpb] at hnew
  obtain ⟨W, hW⟩ : ∃ W, W = w.alloc (.cells #[.int .i64 0, .string ⟨#[]⟩] 91) := ⟨_, rfl⟩
  have HW := hide hW
  rw [← hW] at hnew HB
  have HK2 := hide hnew
  have f0 : W.cell? ⟨pb, 0, none⟩ = some (.int .i64 0) := hnew.cell 0 rfl
  have f1 : W.cell? ⟨pb, 1, none⟩ = some (.string ⟨#[]⟩) := hnew.cell 1 rfl
  have f2 : W.frozen? ⟨pb, 0, none⟩ = false := hnew.frozen 0
  have f3 : W.frozen? ⟨pb, 1, none⟩ = false := hnew.frozen 1
  have HR := hide (refuse_nil d W)
  clear hnew hW hpb
  go_enter Tryz.func56, Tryz.ntmps56
  go_wp2_with fail
  rw [← unhide HW, ← unhide HP0]
  refine (unhide HR).mono ?_
  rintro e w1 ⟨rfl, hw1⟩
  have hw2 := hw1.symm
  subst hw2
  clear hw1
  go_wp2_with fail
  refine bodyPost_ret (res_place3 rfl _ _ pb _ _ rfl (by first | exact (((unhide HK2).set 0 _).set 1 _).cell 0 rfl | exact (unhide HK2).cell 0 rfl) (by first | exact (((unhide HK2).set 0 _).set 1 _).cell 1 rfl | exact (unhide HK2).cell 1 rfl)) rfl ⟨rfl, by first | exact below_set2 (unhide HB) (unhide HPB) _ _ | exact unhide HB⟩
set_option maxRecDepth 20000 in
set_option maxHeartbeats 1000000 in
theorem unlink_nil (d : Int) (p : List UInt8) (w : World) : Calls Tryz.prog 16 #[.pointer none, .int .i64 d, .string (BA p)] w fun e w' => e = .returned (.int .i64 2) ∧ Below w.heap.size w w' := by
  go_enter Tryz.func16, Tryz.ntmps16
  go_wp2_with fail
  refine (nfind_nil d p w).mono ?_
  rintro e w1 ⟨rfl, b1⟩
  have HB : Hid (Below w.heap.size w (w1.alloc (.cells #[.int .i64 0, .string (BA [])] 91))) := hide (b1.trans (((Below.refl _ w1).alloc (Nat.le_refl _) _).mono b1.size))
  clear b1
  go_wp2_with fail
  go_ret
  exact ⟨rfl, unhide HB⟩
set_option maxRecDepth 20000 in
set_option maxHeartbeats 1000000 in
theorem rmdir_nil (d : Int) (p : List UInt8) (w : World) : Calls Tryz.prog 43 #[.pointer none, .int .i64 d, .string (BA p)] w fun e w' => e = .returned (.int .i64 2) ∧ Below w.heap.size w w' := by
  go_enter Tryz.func43, Tryz.ntmps43
  go_wp2_with fail
  refine (nfind_nil d p w).mono ?_
  rintro e w1 ⟨rfl, b1⟩
  have HB : Hid (Below w.heap.size w (w1.alloc (.cells #[.int .i64 0, .string (BA [])] 91))) := hide (b1.trans (((Below.refl _ w1).alloc (Nat.le_refl _) _).mono b1.size))
  clear b1
  go_wp2_with fail
  go_ret
  exact ⟨rfl, unhide HB⟩
set_option maxRecDepth 20000 in
set_option maxHeartbeats 1000000 in
theorem stat_nil (d : Int) (w : World) : Calls Tryz.prog 27 #[.pointer none, .int .i64 d] w fun e w' => e = .returned (.tuple #[.agg #[.int .i64 0, .int .i64 0, .int .i64 0], .int .i64 2]) ∧ Below w.heap.size w w' := by
  have hnew := Blk.new w 55 #[.int .i64 0, .int .i64 0, .int .i64 0]
  have HB : Hid (Below w.heap.size w (w.alloc (.cells #[.int .i64 0, .int .i64 0, .int .i64 0] 55))) := hide ((Below.refl _ w).alloc (Nat.le_refl _) _)
  obtain ⟨pb, hpb⟩ : ∃ pb, pb = w.heap.size := ⟨_, rfl⟩
  have HPB : Hid (w.heap.size ≤ pb) := hide (by rw [hpb]; exact Nat.le_refl _)
  have HP0 := hide hpb
  rw [← hpb] at hnew
  obtain ⟨W, hW⟩ : ∃ W, W = w.alloc (.cells #[.int .i64 0, .int .i64 0, .int .i64 0] 55) := ⟨_, rfl⟩
  have HW := hide hW
  rw [← hW] at hnew HB
  have HK2 := hide hnew
  have f0 : W.cell? ⟨pb, 0, none⟩ = some (.int .i64 0) := hnew.cell 0 rfl
  have f1 : W.cell? ⟨pb, 1, none⟩ = some (.int .i64 0) := hnew.cell 1 rfl
  have f2 : W.cell? ⟨pb, 2, none⟩ = some (.int .i64 0) := hnew.cell 2 rfl
  have f3 : W.frozen? ⟨pb, 0, none⟩ = false := hnew.frozen 0
  have f4 : W.frozen? ⟨pb, 1, none⟩ = false := hnew.frozen 1
  have f5 : W.frozen? ⟨pb, 2, none⟩ = false := hnew.frozen 2
  have HR := hide (nkind_nil d W)
  clear hnew hW hpb
  go_enter Tryz.func27, Tryz.ntmps27
  go_wp2_with fail
  rw [← unhide HW, ← unhide HP0]
  refine (unhide HR).mono ?_
  rintro e w1 ⟨rfl, hw1⟩
  have hw2 := hw1.symm
  subst hw2
  clear hw1
  go_wp2_with fail
  refine bodyPost_ret (res_info rfl _ _ pb _ _ _ rfl (by first | exact ((((unhide HK2).set 0 _).set 1 _).set 2 _).cell 0 rfl | exact (unhide HK2).cell 0 rfl) (by first | exact ((((unhide HK2).set 0 _).set 1 _).set 2 _).cell 1 rfl | exact (unhide HK2).cell 1 rfl) (by first | exact ((((unhide HK2).set 0 _).set 1 _).set 2 _).cell 2 rfl | exact (unhide HK2).cell 2 rfl)) rfl ⟨rfl, by first | exact below_set3 (unhide HB) (unhide HPB) _ _ _ | exact unhide HB⟩
set_option maxRecDepth 20000 in
set_option maxHeartbeats 8000000 in
theorem nil_walk (p : List UInt8) (d : Int) (w : World) (E : EnvB w (Bas.of w)) : Calls Tryz.prog 8 #[.string (BA p), .int .i64 d] w fun e w' => e = .returned (.bool true) ∧ Below w.heap.size w w' := by
  have HE := hide E
  have HB0 : Hid (Below w.heap.size w w) := hide (Below.refl _ _)
  clear E
  go_enter Tryz.func8, Tryz.ntmps8
  go_wp2_with fail
  refine (walk_nil d p true _).mono ?_
  rintro e wx ⟨rfl, hwx⟩
  have hw2 := hwx.symm
  subst hw2
  clear hwx
  go_wp2_with fail
  refine (make_nil d p _).mono ?_
  rintro e wx ⟨rfl, hwx⟩
  have hw2 := hwx.symm
  subst hw2
  clear hwx
  go_wp2_with fail
  refine (readlink_nil d _).mono ?_
  rintro e wx ⟨rfl, hwx⟩
  have hw2 := hwx.symm
  subst hw2
  clear hwx
  go_wp2_with fail
  refine (list_nil d _).mono ?_
  rintro e wx ⟨rfl, hwx⟩
  have hw2 := hwx.symm
  subst hw2
  clear hwx
  go_wp2_with fail
  refine (stat_nil d _).mono ?_
  rintro e w5 ⟨rfl, b5⟩
  have HB5 : Hid (Below w.heap.size w (w5.alloc (.cells #[.int .i64 0, .int .i64 0, .int .i64 0] 55))) := hide (((unhide HB0).trans (b5.mono (unhide HB0).size)).trans (((Below.refl _ w5).alloc (Nat.le_refl _) _).mono ((unhide HB0).trans (b5.mono (unhide HB0).size)).size))
  clear b5
  go_wp2_with fail
  refine (nread_nil d d d _).mono ?_
  rintro e wx ⟨rfl, hwx⟩
  have hw2 := hwx.symm
  subst hw2
  clear hwx
  go_wp2_with fail
  refine (nwrite_nil d d p _).mono ?_
  rintro e wx ⟨rfl, hwx⟩
  have hw2 := hwx.symm
  subst hw2
  clear hwx
  go_wp2_with fail
  refine (nfree_nil _).mono ?_
  rintro e wx ⟨rfl, hwx⟩
  have hw2 := hwx.symm
  subst hw2
  clear hwx
  go_wp2_with fail
  refine (mkdir_nil d p _).mono ?_
  rintro e wx ⟨rfl, hwx⟩
  have hw2 := hwx.symm
  subst hw2
  clear hwx
  go_wp2_with fail
  refine (symlink_nil d p p _).mono ?_
  rintro e wx ⟨rfl, hwx⟩
  have hw2 := hwx.symm
  subst hw2
  clear hwx
  go_wp2_with fail
  refine (link_nil d p p _).mono ?_
  rintro e wx ⟨rfl, hwx⟩
  have hw2 := hwx.symm
  subst hw2
  clear hwx
  go_wp2_with fail
  refine (unlink_nil d p _).mono ?_
  rintro e w12 ⟨rfl, b12⟩
  have HB12 := hide ((unhide HB5).trans (b12.mono (unhide HB5).size))
  clear b12
  go_wp2_with fail
  refine (rmdir_nil d p _).mono ?_
  rintro e w13 ⟨rfl, b13⟩
  have HB13 := hide ((unhide HB12).trans (b13.mono (unhide HB12).size))
  clear b13
  go_wp2_with fail
  refine (rename_nil d p p _).mono ?_
  rintro e wx ⟨rfl, hwx⟩
  have hw2 := hwx.symm
  subst hw2
  clear hwx
  go_wp2_with fail
  refine (cut_nil d d _).mono ?_
  rintro e wx ⟨rfl, hwx⟩
  have hw2 := hwx.symm
  subst hw2
  clear hwx
  go_wp2_with fail
  refine (hold_nil d _).mono ?_
  rintro e wx ⟨rfl, hwx⟩
  have hw2 := hwx.symm
  subst hw2
  clear hwx
  go_wp2_with fail
  refine (loose_nil d _).mono ?_
  rintro e wx ⟨rfl, hwx⟩
  have hw2 := hwx.symm
  subst hw2
  clear hwx
  go_wp2_with fail
  refine (root_nil _).mono ?_
  rintro e wx ⟨rfl, hwx⟩
  have hw2 := hwx.symm
  subst hw2
  clear hwx
  go_wp2_with fail
  refine (ncopy_nil _).mono ?_
  rintro e wx ⟨rfl, hwx⟩
  have hw2 := hwx.symm
  subst hw2
  clear hwx
  go_wp2_with fail
  refine (print_nil _).mono ?_
  rintro e wx ⟨rfl, hwx⟩
  have hw2 := hwx.symm
  subst hw2
  clear hwx
  go_wp2_with fail
  refine (awake_any _ ((unhide HE).below (unhide HB13)).self).mono ?_
  rintro e wz ⟨rfl, bz⟩
  have HBZ := hide ((unhide HB13).trans (bz.mono (unhide HB13).size))
  clear bz
  go_wp2_with fail
  go_ret
  exact ⟨rfl, unhide HBZ⟩

end Go.Proofs.YtghidcohgkajaaaGreatDoor

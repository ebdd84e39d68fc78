/-
  The chapter's examples of layer 5.
  THE FRAME OF A LAW: from 'the call returns true and writes nothing that was there' to the row's step, over any program; the world's shape and what the listed variables hold are handed to the walk.
  What the listed tables and the world's shape give the walks ('WEnv'), and the parts of the frame that all laws of this seat share.
-/
import Derived.Test.YtnamfjbfcbamjaaGreatDoorP18
import Derived.WalkKit
import Derived.ProofKit
import Derived.OpenShut
import Derived.Below
import Derived.LaidMore
import Derived.Lay
import Derived.SevenTiedAt
import Derived.Stop.Joined
import Derived.Test.YtnamfjbfcbamjaaGreatDoorTie
import Derived.Test.YtnamfjbfcbamjaaGreatDoorCards
import Derived.Stop.LaidErr
import Derived.Lib.LaidTab
import Derived.Lib.SmallJoins
import Derived.ChangeMaps5
namespace Go.Proofs.YtnamfjbfcbamjaaGreatDoor
open Go.RowKit
theorem e1 : wrdL true 0 [97, 39, 98, 32, 99, 39, 34, 100, 34] = .ok [litP [97] false, litP [98, 32, 99, 100] true] := by kernel_rfl
theorem e2 : wrdL true 0 [36, 123, 120, 58, 45, 97, 32, 98, 125] = .ok [.mk 2 [120] false 2 true [litP [97, 32, 98] false]] := by kernel_rfl
theorem e3 : wrdL true 0 [36, 40, 101, 99, 104, 111, 32, 34, 97, 34, 41, 36, 40, 40, 49, 43, 50, 41, 41] = .ok [.mk 3 [101, 99, 104, 111, 32, 34, 97, 34] false 0 false [], .mk 4 [49, 43, 50] false 0 false []] := by kernel_rfl
theorem e4 : wrdL true 0 [36, 123, 125] = .err 10 := by kernel_rfl
theorem pa {l : List UInt8} {ps : List Prt} (h : wrdL true 0 l = .ok ps) (w : World) (he : WEnv w) (hl : l.length ≤ 100000) : Calls Tryz.prog 6 #[.string (BA l)] w fun e w' => ∃ ad cap, e = .returned (.tuple #[.slice ad ps.length cap, .int .i64 0]) ∧ Below w.heap.size w w' ∧ WAt w' (fun k => w.heap.size ≤ k ∧ k < w'.heap.size) (.slice ad ps.length cap) ps := by
  refine (parse_any l w he hl).mono ?_
  rw [h]
  rintro e w' ⟨v, rfl, h2, h3⟩
  obtain ⟨ad, cap, rfl, _⟩ := h3.len
  exact ⟨ad, cap, rfl, h2, h3⟩
theorem pe {l : List UInt8} {x : Int} (h : wrdL true 0 l = .err x) (w : World) (he : WEnv w) (hl : l.length ≤ 100000) : Calls Tryz.prog 6 #[.string (BA l)] w fun e w' => ∃ v, e = .returned (.tuple #[v, .int .i64 x]) ∧ Below w.heap.size w w' := by
  refine (parse_any l w he hl).mono ?_
  rw [h]
  rintro e w' ⟨v, rfl, h2, h3⟩
  exact ⟨v, rfl, h2⟩
theorem WEnv.belw {w w1 : World} (h : WEnv w) (hb : Below w.heap.size w w1) : WEnv w1 := h.below (hb.mono (by have := h.two; omega))
set_option maxRecDepth 100000 in
set_option maxHeartbeats 8000000 in
theorem awake_any (w : World) (he : WEnv w) : Calls Tryz.prog 5 #[] w fun e w' => e = .returned (.bool true) ∧ Below w.heap.size w w' := by
  have HE := hide he
  clear he
  go_enter Tryz.func5, Tryz.ntmps5
  go_wp2_with fail
  refine (pa e1 w (unhide HE) (by simp)).mono ?_
  rintro e w1 ⟨a1, k1, rfl, b1, v1⟩
  have HE1 := hide ((unhide HE).belw b1)
  have HB1 := hide b1
  have HV1 := hide v1
  clear b1 v1
  go_wp2_with fail
  refine (pa e2 w1 (unhide HE1) (by simp)).mono ?_
  rintro e w2 ⟨a2, k2, rfl, b2, v2⟩
  have HE2 := hide ((unhide HE1).belw b2)
  have HB2 := hide b2
  have HV2 := hide v2
  clear b2 v2
  go_wp2_with fail
  refine (pa e3 w2 (unhide HE2) (by simp)).mono ?_
  rintro e w3 ⟨a3, k3, rfl, b3, v3⟩
  have HE3 := hide ((unhide HE2).belw b3)
  have HB3 := hide b3
  have HV3 := hide v3
  clear b3 v3
  go_wp2_with fail
  refine (pe e4 w3 (unhide HE3) (by simp)).mono ?_
  rintro e w4 ⟨v4, rfl, b4⟩
  have HE4 := hide ((unhide HE3).belw b4)
  have HB4 := hide b4
  clear b4
  have HB : Hid (Below w.heap.size w w4) := hide ((unhide HB1).trans ((unhide HB2).trans ((unhide HB3).trans ((unhide HB4).mono (unhide HB3).size) |>.mono (unhide HB2).size) |>.mono (unhide HB1).size))
  have HPR : Hid (Calls Tryz.prog 12 #[.slice (some ⟨w4.heap.size, 0, none⟩) 1 1] (w4.alloc (.cells #[.int .i64 2, .string ⟨#[120]⟩, .bool true, .int .i64 0, .bool false, .slice none 0 0] 37)) fun e w' => e = .returned (.tuple #[.string ⟨#[34, 36, 123, 120, 125, 34]⟩, .int .i64 0]) ∧ Below w4.heap.size w4 w') := hide (by
    have hb : Below w4.heap.size w4 (w4.alloc (.cells #[.int .i64 2, .string ⟨#[120]⟩, .bool true, .int .i64 0, .bool false, .slice none 0 0] 37)) := (Below.refl _ _).alloc (Nat.le_refl _) _
    exact (print_one _ w4.heap.size ((unhide HE4).belw hb) (Blk.new w4 _ _)).mono (fun _ _ ⟨h1, h2⟩ => ⟨h1, hb.trans (h2.mono hb.size)⟩))
  go_wp2_with fail
  refine (unhide HPR).mono ?_
  rintro e w5 ⟨rfl, b5⟩
  have HF : Hid (Below w.heap.size w w5) := hide ((unhide HB).trans (b5.mono (unhide HB).size))
  have x1 : WAt w5 (fun k => w.heap.size ≤ k ∧ k < w1.heap.size) (.slice a1 2 k1) _ := (unhide HV1).below (n := w1.heap.size) ((unhide HB2).trans ((unhide HB3).trans ((unhide HB4).trans (b5.mono (unhide HB4).size) |>.mono (unhide HB3).size) |>.mono (unhide HB2).size)) (fun k h => h.2)
  have x2 : WAt w5 (fun k => w1.heap.size ≤ k ∧ k < w2.heap.size) (.slice a2 1 k2) _ := (unhide HV2).below (n := w2.heap.size) ((unhide HB3).trans ((unhide HB4).trans (b5.mono (unhide HB4).size) |>.mono (unhide HB3).size)) (fun k h => h.2)
  have x3 : WAt w5 (fun k => w2.heap.size ≤ k ∧ k < w3.heap.size) (.slice a3 2 k3) _ := (unhide HV3).below (n := w3.heap.size) ((unhide HB4).trans (b5.mono (unhide HB4).size)) (fun k h => h.2)
  obtain ⟨g1, o1, u1, rfl, _, _, c11, c12, _, _, _, _⟩ := x1.part (i := 1) rfl
  obtain ⟨g2, o2, u2, rfl, _, _, _, _, c23, c24, c25, s2⟩ := x2.part (i := 0) rfl
  obtain ⟨sa, sc, rfl, _⟩ := s2.len
  obtain ⟨g3, o3, u3, ha3, _, c30, _, _, _, _, _, _⟩ := x3.part (i := 0) rfl
  obtain ⟨g3', o3', u3', ha3', _, c40, c41, _, _, _, _, _⟩ := x3.part (i := 1) rfl
  subst ha3
  have hg : g3 = g3' ∧ o3 = o3' := by simpa using ha3'
  obtain ⟨rfl, rfl⟩ := hg
  simp only [Nat.zero_mul, Nat.one_mul, Nat.add_zero] at c11 c12 c23 c24 c25 c30 c40 c41
  clear x1 x2 x3 s2 b5 ha3' HPR
  simp only [litP, Prt.text, Prt.kind, Prt.quote, Prt.op, Prt.colon, Prt.sub, List.length_cons, List.length_nil] at c11 c12 c23 c24 c25 c30 c40 c41
  have t1 : ((BA [98, 32, 99, 100]).toList == [98, 32, 99, 100]) = true := by rw [BA_toList]; rfl
  have t2 : ((BA [49, 43, 50]).toList == [49, 43, 50]) = true := by rw [BA_toList]; rfl
  clear HV1 HV2 HV3
  go_wp2
  go_ret
  exact ⟨rfl, unhide HF⟩
end Go.Proofs.YtnamfjbfcbamjaaGreatDoor
namespace Go.Proofs.YtnamfjbfcbamjaaGreatDoor
open Go.ChangeShapes Go.WideShapes Go.ChangeAt Go.RowKit
variable {H : Type} {enc : TypeId × Value → H}
theorem trodAll_below {P : Program} (hl : laidOutB P = true) {W W' : World} (hb : Below W.heap.size W W') :
    ∀ (ts : List TypeId) (vs : List Value) (ds : List (DataW H)) (ps : List MemPlace), (∀ t ∈ ts, P.readableRec t = true ∧ t < P.types.size) →
      DataW.TrodAll enc P W 0 (fun _ => true) true ts vs ds ps → DataW.TrodAll enc P W' 0 (fun b => decide (b < W.heap.size)) true ts vs ds ps
  | [], vs, ds, ps, _, h => by
    obtain ⟨rfl, rfl, rfl⟩ := trodAll_nil h
    exact trodAll_mk0
  | t :: ts, vs, ds, ps, ht, h => by
    obtain ⟨v, vs', d, ds', p, q, rfl, rfl, rfl, h0, r0⟩ := trodAll_cons h
    have k := ht t (by simp)
    have lt0 : ∀ x ∈ p, x.block < W.heap.size := by obtain ⟨m, hm⟩ := h0; exact DataW.trod_lt m _ _ _ hm
    exact trodAll_cons_mk (Below.trod hl k.1 k.2 h0 hb lt0) (trodAll_below hl hb ts vs' ds' q (fun u hu => ht u (by simp [hu])) r0)
theorem law_lifted {C : Checked} {os : Os} {f : FuncId} {fn : Func} {s : ChangeSpec} {L : List (String × DataW Unit)} {tb : TypeId}
    (own : ownKnob C.prog.godebug = none) (started : os.Started) (noInit : C.prog.inits.idxOf? f = none) (hfn : C.prog.funcs[f]? = some fn)
    (hl : laidOutB C.prog = true) (hvars : s.vars = []) (hread : ∀ t ∈ fn.params.toList, C.prog.readableRec t = true ∧ t < C.prog.types.size)
    (hres : fn.resultTypes = #[tb]) (hbool : C.prog.underlying tb = some .bool)
    (hspec : ∀ ds : List (DataW H), ds.length = fn.params.toList.length → s.fn H ds = { results := [.lit (.bool true)], args := ds })
    (witness : ∃ (w : World) (tape : Tape) (i : Input), w.os = os ∧ (w.forCall tape i).Shaped C.prog ∧ i.vars = [] ∧ Input.okWide C.prog (w.forCall tape i) .any w.heap.size f i ∧
      ((s.pre enc C.prog fn [] false (w.forCall tape i).memory i.args ∧ laidMetH C.prog L (w.forCall tape i).memory) ∧ sizedMet enc C.prog fn (OpenSpec.ofChange s) false (w.forCall tape i).memory i.args) ∧ Assume.holds {} C.prog (lone (Frame.enter C.prog f i.args .normal) [] (w.forCall tape i)))
    (contract : ∀ (W : World) (base : Nat) (args : Array Value) (ds : List (DataW H)) (ps : List MemPlace),
      (∀ (j : Nat) t v, fn.params[j]? = some t → args[j]? = some v → Value.okWide C.prog W .any base t v) →
      DataW.TrodAll enc C.prog W 0 (fun _ => true) true fn.params.toList args.toList ds ps →
      laidMetH C.prog L W → W.ShapedOpen C.prog →
      Calls C.prog f args W fun e W' => e = .returned (.bool true) ∧ Below W.heap.size W W') :
    ReturnsInHanded {} C os f .any (fun w args => (s.pre enc C.prog fn [] false w args ∧ laidMetH C.prog L w) ∧ sizedMet enc C.prog fn (OpenSpec.ofChange s) false w args) (s.post enc C.prog fn false true false false) := by
  refine returnsInHanded_of_calls own started noInit witness ?_
  intro w tape i _ hsh _ hok hpre _
  obtain ⟨_, _, _, fn', hfn', _, _, _, _, hval⟩ := hok
  obtain rfl : fn' = fn := Option.some.inj (hfn'.symm.trans hfn)
  obtain ⟨⟨⟨ds, gs, before, hw, _⟩, hx⟩, _⟩ := hpre
  have hw' := DataW.Whole.of_heap (w' := w.forCall tape i) (by rfl) hw
  have hW := hw'
  obtain ⟨p, q, hA, hV, _, _, _⟩ := hw'
  rw [hvars] at hV
  obtain ⟨rfl, rfl⟩ := trodVars_none hV
  have hlen : ∀ (ts : List TypeId) (vs : List Value) (ds : List (DataW H)) (ps : List MemPlace), DataW.TrodAll enc C.prog (w.forCall tape i) 0 (fun _ => true) true ts vs ds ps → ds.length = ts.length := by
    intro ts
    induction ts with
    | nil => intro vs ds ps h; obtain ⟨_, rfl, _⟩ := trodAll_nil h; rfl
    | cons t ts ih =>
      intro vs ds ps h
      obtain ⟨v, vs', d, ds', p, q, _, rfl, _, _, r0⟩ := trodAll_cons h
      simp [ih _ _ _ r0]
  refine (contract (w.forCall tape i) w.heap.size i.args ds p hval hA (hx.of_heap (by rfl)) hsh).mono fun e W' ⟨he, bel⟩ => ?_
  subst he
  have hs := hspec (ds ++ []) (by rw [List.append_nil]; exact hlen _ _ _ _ hA)
  refine ChangeSpec.post_blind (v := .bool true) ⟨ds, [], before, [], p, [], hW, ?_, ?_, ?_, bel.frame _, fun h => by cases h⟩
  · rw [hs, hres]
    exact trodAll_mk1 (shut_bool hbool _)
  · rw [hs]
    simp only [List.append_nil]
    exact trodAll_below hl bel _ _ _ _ hread hA
  · rw [hs, hvars]
    rfl
end Go.Proofs.YtnamfjbfcbamjaaGreatDoor
namespace Go.Proofs.YtnamfjbfcbamjaaGreatDoor
open Go.ChangeShapes Go.WideShapes Go.ChangeAt Go.RowKit Go.Joins
def seatLaid : List (String × DataW Unit) := [("unicode/utf8.acceptRanges", Rows.laid_unicode_utf8_acceptRanges), ("conch/word.signs", Rows.laid_conch_word_signs), ("conch/word.rules", Rows.laid_conch_word_rules), ("unicode/utf8.first", Rows.laid_unicode_utf8_first)]
theorem own : ownKnob Tryz.prog.godebug = none := by kernel_rfl
theorem laidOut : laidOutB Tryz.prog = true := by kernel_rfl
def sgnD {H : Type} : DataW H := .agg (sgnT.map fun x => .agg [.lit (.string x.1), .lit (.int .i64 x.2)])
theorem sgn_eqD : (Rows.laid_conch_word_signs : DataW Unit) = sgnD := by kernel_rfl
def rulT : List (Bool × Bool × Bool × List UInt8) := (List.range 6).map fun k => (sngW k, dblW k, allW k, escL k)
def rulD {H : Type} : DataW H := .agg (rulT.map fun x => .agg [.lit (.bool x.1), .lit (.bool x.2.1), .lit (.bool x.2.2.1), .lit (.string x.2.2.2)])
theorem rul_eqD : (Rows.laid_conch_word_rules : DataW Unit) = rulD := by kernel_rfl
theorem ba_of {s : ByteArray} {z : List UInt8} (h : s.data.toList = z) : s = BA z := by rw [← h]; rfl
theorem get_dt {cs : List Value} {a b : Nat} {x : Value} (h : (cs.drop a).take b = [x]) : cs[a]? = some x := by
  have := congrArg (·[0]?) h
  rw [List.getElem?_take] at this
  split at this
  · simpa [List.getElem?_drop] using this
  · cases this
theorem cSG : Tryz.prog.cellsOf 125 = 2 := by kernel_rfl
theorem cRG : Tryz.prog.cellsOf 103 = 4 := by kernel_rfl
theorem c9 : Tryz.prog.cellsOf 9 = 1 := by kernel_rfl
theorem c3 : Tryz.prog.cellsOf 3 = 1 := by kernel_rfl
theorem c4 : Tryz.prog.cellsOf 4 = 1 := by kernel_rfl
theorem drop_get {cs : List Value} {a b j : Nat} {x : Value} (h : ((cs.drop a).take b)[j]? = some x) : cs[a + j]? = some x := by
  rw [List.getElem?_take] at h
  split at h
  · rwa [List.getElem?_drop] at h
  · cases h
theorem sgn_cells {H : Type} {enc : TypeId × Value → H} {w : World} {base : Nat} {sp : Nat → Bool} {held : Bool} {fuel : Nat} {cs : List Value} {p : List MemPlace} (h : DataW.trod enc Tryz.prog w base sp held fuel 126 cs = some (sgnD, p)) :
    ∀ (i : Nat) (x : List UInt8 × Int), sgnT[i]? = some x → cs[i * 2]? = some (.string (BA x.1)) ∧ cs[i * 2 + 1]? = some (.int .i64 x.2) := by
  intro i x hi
  obtain ⟨xs, m, _, hx, _, hn, hf⟩ := DataW.trod_array Tryz.underlying126 h
  have hlt : i < 8 := (List.getElem?_eq_some_iff.1 hi).1
  have hx1 : xs.map (·.1) = sgnT.map fun x => .agg [.lit (.string x.1), .lit (.int .i64 x.2)] := by
    have := congrArg Prod.fst hx
    simp only [sgnD] at this
    injection this with this
    exact this.symm
  have hxi : (xs[i]?).map (·.1) = some (.agg [.lit (.string x.1), .lit (.int .i64 x.2)]) := by rw [← List.getElem?_map, hx1, List.getElem?_map, hi]; rfl
  obtain ⟨y, hy, hy1⟩ := Option.map_eq_some_iff.1 hxi
  have hf1 := hf i hlt
  rw [hy, cSG] at hf1
  obtain ⟨y0, y1, m2, hyy, _, g0, g1⟩ := trod_struct2 Tryz.underlying125 hf1
  rw [hyy] at hy1
  simp only [DataW.agg.injEq, List.cons.injEq, and_true] at hy1
  obtain ⟨s, hs, rfl, _⟩ := DataW.trod_string Tryz.underlying9 g0
  obtain ⟨n, hn', rfl, _⟩ := DataW.trod_int Tryz.underlying3 g1
  simp only [DataW.lit.injEq, Lit.string.injEq, Lit.int.injEq, true_and] at hy1
  rw [c9] at hs
  rw [c3] at hn'
  have e0 := get_dt hs
  have e1 := get_dt hn'
  rw [← ba_of hy1.1, ← hy1.2]
  exact ⟨drop_get (j := 0) e0, drop_get (j := 1) e1⟩
theorem rul_cells {H : Type} {enc : TypeId × Value → H} {w : World} {base : Nat} {sp : Nat → Bool} {held : Bool} {fuel : Nat} {cs : List Value} {p : List MemPlace} (h : DataW.trod enc Tryz.prog w base sp held fuel 104 cs = some (rulD, p)) :
    ∀ (i : Nat) (x : Bool × Bool × Bool × List UInt8), rulT[i]? = some x → cs[i * 4]? = some (.bool x.1) ∧ cs[i * 4 + 1]? = some (.bool x.2.1) ∧ cs[i * 4 + 2]? = some (.bool x.2.2.1) ∧ cs[i * 4 + 3]? = some (.string (BA x.2.2.2)) := by
  intro i x hi
  obtain ⟨xs, m, _, hx, _, hn, hf⟩ := DataW.trod_array Tryz.underlying104 h
  have hlt : i < 6 := by have := (List.getElem?_eq_some_iff.1 hi).1; simpa [rulT] using this
  have hx1 : xs.map (·.1) = rulT.map fun x => .agg [.lit (.bool x.1), .lit (.bool x.2.1), .lit (.bool x.2.2.1), .lit (.string x.2.2.2)] := by
    have := congrArg Prod.fst hx
    simp only [rulD] at this
    injection this with this
    exact this.symm
  have hxi : (xs[i]?).map (·.1) = some (.agg [.lit (.bool x.1), .lit (.bool x.2.1), .lit (.bool x.2.2.1), .lit (.string x.2.2.2)]) := by rw [← List.getElem?_map, hx1, List.getElem?_map, hi]; rfl
  obtain ⟨y, hy, hy1⟩ := Option.map_eq_some_iff.1 hxi
  have hf1 := hf i hlt
  rw [hy, cRG] at hf1
  obtain ⟨y0, y1, y2, y3, m2, hyy, _, g0, g1, g2, g3⟩ := trod_struct4 Tryz.underlying103 hf1
  rw [hyy] at hy1
  simp only [DataW.agg.injEq, List.cons.injEq, and_true] at hy1
  obtain ⟨b0, h0, rfl⟩ := DataW.trod_bool Tryz.underlying4 g0
  obtain ⟨b1, h1, rfl⟩ := DataW.trod_bool Tryz.underlying4 g1
  obtain ⟨b2, h2, rfl⟩ := DataW.trod_bool Tryz.underlying4 g2
  obtain ⟨s, h3, rfl, _⟩ := DataW.trod_string Tryz.underlying9 g3
  simp only [DataW.lit.injEq, Lit.string.injEq, Lit.bool.injEq] at hy1
  rw [c4] at h0 h1 h2
  rw [c9] at h3
  obtain ⟨q0, q1, q2, q3⟩ := hy1
  rw [← ba_of q3, ← q0, ← q1, ← q2]
  exact ⟨drop_get (j := 0) (get_dt h0), drop_get (j := 1) (get_dt h1), drop_get (j := 2) (get_dt h2), drop_get (j := 3) (get_dt h3)⟩
theorem gSg : Tryz.prog.globalNamed "conch/word.signs" = some 1 := by kernel_rfl
theorem tSg : (Tryz.prog.globals[1]?).map (·.type) = some 126 := by kernel_rfl
theorem gRu : Tryz.prog.globalNamed "conch/word.rules" = some 0 := by kernel_rfl
theorem tRu : (Tryz.prog.globals[0]?).map (·.type) = some 104 := by kernel_rfl
theorem sgn_of {W : World} {rest : List (String × DataW Unit)} (h : laidMet Tryz.prog (("conch/word.signs", sgnD) :: rest) W) : ∀ (i : Nat) (x : List UInt8 × Int), sgnT[i]? = some x → W.cell? ⟨1, i * 2, none⟩ = some (.string (BA x.1)) ∧ W.cell? ⟨1, i * 2 + 1, none⟩ = some (.int .i64 x.2) := by
  obtain ⟨ps, ⟨g', t', cs, fuel, p, q, hg', ht', hvar, hd, _, _⟩, _⟩ := h
  obtain rfl := Option.some.inj (gSg.symm.trans hg')
  obtain rfl := Option.some.inj (tSg.symm.trans ht')
  intro i x hi
  have hc := sgn_cells hd i x hi
  have hv := World.var?_cell gSg hvar
  exact ⟨by rw [hv, ← Array.getElem?_toList]; exact hc.1, by rw [hv, ← Array.getElem?_toList]; exact hc.2⟩
theorem rul_of {W : World} {rest : List (String × DataW Unit)} (h : laidMet Tryz.prog (("conch/word.rules", rulD) :: rest) W) : ∀ (i : Nat) (x : Bool × Bool × Bool × List UInt8), rulT[i]? = some x → W.cell? ⟨0, i * 4, none⟩ = some (.bool x.1) ∧ W.cell? ⟨0, i * 4 + 1, none⟩ = some (.bool x.2.1) ∧ W.cell? ⟨0, i * 4 + 2, none⟩ = some (.bool x.2.2.1) ∧ W.cell? ⟨0, i * 4 + 3, none⟩ = some (.string (BA x.2.2.2)) := by
  obtain ⟨ps, ⟨g', t', cs, fuel, p, q, hg', ht', hvar, hd, _, _⟩, _⟩ := h
  obtain rfl := Option.some.inj (gRu.symm.trans hg')
  obtain rfl := Option.some.inj (tRu.symm.trans ht')
  intro i x hi
  have hc := rul_cells hd i x hi
  have hv := World.var?_cell gRu hvar
  exact ⟨by rw [hv, ← Array.getElem?_toList]; exact hc.1, by rw [hv, ← Array.getElem?_toList]; exact hc.2.1, by rw [hv, ← Array.getElem?_toList]; exact hc.2.2.1, by rw [hv, ← Array.getElem?_toList]; exact hc.2.2.2⟩
theorem max_of (W : World) (h : W.ShapedOpen Tryz.prog) : ∃ m : Int, W.cell? ⟨2, 0, none⟩ = some (.int .i64 m) :=
  Go.Proofs.cell_of_shapedOpen_int (zero := #[.int .i64 0]) (t := 3) h (of_decide_eq_true (by kernel_rfl)) (by kernel_rfl) rfl (by kernel_rfl) (by kernel_rfl) Tryz.underlying3
theorem rulT_at (k : Nat) (hk : k < 6) : rulT[k]? = some (sngW k, dblW k, allW k, escL k) := by
  unfold rulT
  rw [List.getElem?_map, List.getElem?_range hk]
  rfl
theorem env_of {W : World} (hL : laidMetH Tryz.prog seatLaid W) (hsh : W.ShapedOpen Tryz.prog) : WEnv W := by
  rw [MakeChecks.laidMetH_plain _ _ _ (by kernel_rfl)] at hL
  have h2 := laidMet.tail hL
  have h3 := laidMet.tail h2
  rw [sgn_eqD] at h2
  rw [rul_eqD] at h3
  have hs := sgn_of h2
  have hr := rul_of h3
  obtain ⟨m, hm⟩ := max_of W hsh
  refine ⟨fun k hk => (hr k _ (rulT_at k hk)).1, fun k hk => (hr k _ (rulT_at k hk)).2.1, fun k hk => (hr k _ (rulT_at k hk)).2.2.1, fun k hk => (hr k _ (rulT_at k hk)).2.2.2, fun j hj => ?_, ⟨m, hm⟩, ?_⟩
  · have hj' : j = 0 ∨ j = 1 ∨ j = 2 ∨ j = 3 ∨ j = 4 ∨ j = 5 ∨ j = 6 ∨ j = 7 ∨ j = 8 ∨ j = 9 ∨ j = 10 ∨ j = 11 ∨ j = 12 ∨ j = 13 ∨ j = 14 ∨ j = 15 := by omega
    rcases hj' with rfl | rfl | rfl | rfl | rfl | rfl | rfl | rfl | rfl | rfl | rfl | rfl | rfl | rfl | rfl | rfl
    · exact (hs 0 _ rfl).1
    · exact (hs 0 _ rfl).2
    · exact (hs 1 _ rfl).1
    · exact (hs 1 _ rfl).2
    · exact (hs 2 _ rfl).1
    · exact (hs 2 _ rfl).2
    · exact (hs 3 _ rfl).1
    · exact (hs 3 _ rfl).2
    · exact (hs 4 _ rfl).1
    · exact (hs 4 _ rfl).2
    · exact (hs 5 _ rfl).1
    · exact (hs 5 _ rfl).2
    · exact (hs 6 _ rfl).1
    · exact (hs 6 _ rfl).2
    · exact (hs 7 _ rfl).1
    · exact (hs 7 _ rfl).2
  · rcases Nat.lt_or_ge 2 W.heap.size with h' | h'
    · exact h'
    · have e : W.heap[2]? = none := Array.getElem?_eq_none h'
      unfold World.cell? at hm
      rw [e] at hm
      cases hm
theorem read_of {P : Program} {ts : List TypeId} (h : (ts.all fun t => P.readableRec t && decide (t < P.types.size)) = true) : ∀ t ∈ ts, P.readableRec t = true ∧ t < P.types.size := by
  intro t ht
  have := List.all_eq_true.1 h t ht
  simpa using this
theorem door_met (os : Os) (args : Array Value) : laidMetH Tryz.prog seatLaid ((World.laidAll Tryz.prog os seatLaid).forCall (fun _ _ => 0) ⟨#[], args, []⟩).memory := by
  rw [MakeChecks.laidMetH_plain _ _ _ (by kernel_rfl)]
  exact laidMet_laidAll _ (by kernel_rfl) (by kernel_rfl)
end Go.Proofs.YtnamfjbfcbamjaaGreatDoor

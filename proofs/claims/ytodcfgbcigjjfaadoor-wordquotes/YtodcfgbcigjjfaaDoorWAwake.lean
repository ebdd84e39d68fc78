/-
  The chapter's examples of layer 5.
-/
import Derived.Test.YtodcfgbcigjjfaaDoorWPrint3
namespace Go.Proofs.YtodcfgbcigjjfaaDoor
open Go.RowKit

theorem e1 : wrdL true 0 [97, 39, 98, 32, 99, 39, 34, 100, 34] = .ok [litP [97] false, litP [98, 32, 99, 100] true] := by kernel_rfl
theorem e2 : wrdL true 0 [36, 123, 120, 58, 45, 97, 32, 98, 125] = .ok [.mk 2 [120] false 2 true [litP [97, 32, 98] false]] := by kernel_rfl
theorem e3 : wrdL true 0 [36, 40, 101, 99, 104, 111, 32, 34, 97, 34, 41, 36, 40, 40, 49, 43, 50, 41, 41] = .ok [.mk 3 [101, 99, 104, 111, 32, 34, 97, 34] false 0 false [], .mk 4 [49, 43, 50] false 0 false []] := by kernel_rfl
theorem e4 : wrdL true 0 [36, 123, 125] = .err 10 := by kernel_rfl
theorem pa {l : List UInt8} {ps : List Prt} (h : wrdL true 0 l = .ok ps) (w : World) (he : WEnv w) (hl : l.length ≤ 100000) : Calls Tryd.prog 13 #[.string (BA l)] w fun e w' => ∃ ad cap, e = .returned (.tuple #[.slice ad ps.length cap, .int .i64 0]) ∧ Below w.heap.size w w' ∧ WAt w' (fun k => w.heap.size ≤ k ∧ k < w'.heap.size) (.slice ad ps.length cap) ps := by
  refine (parse_any l w he hl).mono ?_
  rw [h]
  rintro e w' ⟨v, rfl, h2, h3⟩
  obtain ⟨ad, cap, rfl, _⟩ := h3.len
  exact ⟨ad, cap, rfl, h2, h3⟩
theorem pe {l : List UInt8} {x : Int} (h : wrdL true 0 l = .err x) (w : World) (he : WEnv w) (hl : l.length ≤ 100000) : Calls Tryd.prog 13 #[.string (BA l)] w fun e w' => ∃ v, e = .returned (.tuple #[v, .int .i64 x]) ∧ Below w.heap.size w w' := by
  refine (parse_any l w he hl).mono ?_
  rw [h]
  rintro e w' ⟨v, rfl, h2, h3⟩
  exact ⟨v, rfl, h2⟩
theorem WEnv.belw {w w1 : World} (h : WEnv w) (hb : Below w.heap.size w w1) : WEnv w1 := h.below (hb.mono (by have := h.two; omega))

set_option maxRecDepth 100000 in
set_option maxHeartbeats 8000000 in
theorem awake_any (w : World) (he : WEnv w) : Calls Tryd.prog 8 #[] w fun e w' => e = .returned (.bool true) ∧ Below w.heap.size w w' := by
  have HE := hide he
  clear he
  go_enter Tryd.func8, Tryd.ntmps8
  go_wp2_with fail
  refine (pa e1 w (unhide HE) (by simp)).mono ?_
  rintro e w1 ⟨a1, k1, rfl, b1, v1⟩
  have HE1 := hide ((unhide HE).belw b1)
  have HB1 := hide b1
  have HV1 := hide v1
  clear b1 v1
  go_wp2_with fail
  refine (pa e2 w1 (unhide HE1) (by simp)).mono ?_
  rintro e w2 ⟨a2, k2, rfl, b2, v2⟩
  have HE2 := hide ((unhide HE1).belw b2)
  have HB2 := hide b2
  have HV2 := hide v2
  clear b2 v2
  go_wp2_with fail
  refine (pa e3 w2 (unhide HE2) (by simp)).mono ?_
  rintro e w3 ⟨a3, k3, rfl, b3, v3⟩
  have HE3 := hide ((unhide HE2).belw b3)
  have HB3 := hide b3
  have HV3 := hide v3
  clear b3 v3
  go_wp2_with fail
  refine (pe e4 w3 (unhide HE3) (by simp)).mono ?_
  rintro e w4 ⟨v4, rfl, b4⟩
  have HE4 := hide ((unhide HE3).belw b4)
  have HB4 := hide b4
  clear b4
  have HB : Hid (Below w.heap.size w w4) := hide ((unhide HB1).trans ((unhide HB2).trans ((unhide HB3).trans ((unhide HB4).mono (unhide HB3).size) |>.mono (unhide HB2).size) |>.mono (unhide HB1).size))
  have HPR : Hid (Calls Tryd.prog 12 #[.slice (some ⟨w4.heap.size, 0, none⟩) 1 1] (w4.alloc (.cells #[.int .i64 2, .string ⟨#[120]⟩, .bool true, .int .i64 0, .bool false, .slice none 0 0] 35)) fun e w' => e = .returned (.tuple #[.string ⟨#[34, 36, 123, 120, 125, 34]⟩, .int .i64 0]) ∧ Below w4.heap.size w4 w') := hide (by
    have hb : Below w4.heap.size w4 (w4.alloc (.cells #[.int .i64 2, .string ⟨#[120]⟩, .bool true, .int .i64 0, .bool false, .slice none 0 0] 35)) := (Below.refl _ _).alloc (Nat.le_refl _) _
    exact (print_one _ w4.heap.size ((unhide HE4).belw hb) (Blk.new w4 _ _)).mono (fun _ _ ⟨h1, h2⟩ => ⟨h1, hb.trans (h2.mono hb.size)⟩))
  go_wp2_with fail
  refine (unhide HPR).mono ?_
  rintro e w5 ⟨rfl, b5⟩
  have HF : Hid (Below w.heap.size w w5) := hide ((unhide HB).trans (b5.mono (unhide HB).size))
  have x1 : WAt w5 (fun k => w.heap.size ≤ k ∧ k < w1.heap.size) (.slice a1 2 k1) _ := (unhide HV1).below (n := w1.heap.size) ((unhide HB2).trans ((unhide HB3).trans ((unhide HB4).trans (b5.mono (unhide HB4).size) |>.mono (unhide HB3).size) |>.mono (unhide HB2).size)) (fun k h => h.2)
  have x2 : WAt w5 (fun k => w1.heap.size ≤ k ∧ k < w2.heap.size) (.slice a2 1 k2) _ := (unhide HV2).below (n := w2.heap.size) ((unhide HB3).trans ((unhide HB4).trans (b5.mono (unhide HB4).size) |>.mono (unhide HB3).size)) (fun k h => h.2)
  have x3 : WAt w5 (fun k => w2.heap.size ≤ k ∧ k < w3.heap.size) (.slice a3 2 k3) _ := (unhide HV3).below (n := w3.heap.size) ((unhide HB4).trans (b5.mono (unhide HB4).size)) (fun k h => h.2)
  obtain ⟨g1, o1, u1, rfl, _, _, c11, c12, _, _, _, _⟩ := x1.part (i := 1) rfl
  obtain ⟨g2, o2, u2, rfl, _, _, _, _, c23, c24, c25, s2⟩ := x2.part (i := 0) rfl
  obtain ⟨sa, sc, rfl, _⟩ := s2.len
  obtain ⟨g3, o3, u3, ha3, _, c30, _, _, _, _, _, _⟩ := x3.part (i := 0) rfl
  obtain ⟨g3', o3', u3', ha3', _, c40, c41, _, _, _, _, _⟩ := x3.part (i := 1) rfl
  subst ha3
  have hg : g3 = g3' ∧ o3 = o3' := by simpa using ha3'
  obtain ⟨rfl, rfl⟩ := hg
  simp only [Nat.zero_mul, Nat.one_mul, Nat.add_zero] at c11 c12 c23 c24 c25 c30 c40 c41
  clear x1 x2 x3 s2 b5 ha3' HPR
  simp only [litP, Prt.text, Prt.kind, Prt.quote, Prt.op, Prt.colon, Prt.sub, List.length_cons, List.length_nil] at c11 c12 c23 c24 c25 c30 c40 c41
  have t1 : ((BA [98, 32, 99, 100]).toList == [98, 32, 99, 100]) = true := by rw [BA_toList]; rfl
  have t2 : ((BA [49, 43, 50]).toList == [49, 43, 50]) = true := by rw [BA_toList]; rfl
  clear HV1 HV2 HV3
  go_wp2
  go_ret
  exact ⟨rfl, unhide HF⟩

end Go.Proofs.YtodcfgbcigjjfaaDoor

/-
  The chapter's example of Print.
-/
import Derived.Test.YtodcfgbcigjjfaaDoorWPrint2
import Derived.Laws.EntriesVeiled
namespace Go.Proofs.YtodcfgbcigjjfaaDoor
open Go.RowKit

theorem own_len {w : World} {base : Nat} {v : Value} {l : List UInt8} (h : OwnB w base v l) : ∃ a c, v = .slice a l.length c := by
  obtain ⟨_, ⟨hv, h0⟩ | ⟨g, cap, cur, hv, _⟩⟩ := h
  · exact ⟨none, 0, by rw [hv, h0]⟩
  · exact ⟨_, _, hv⟩
set_option maxRecDepth 20000 in
set_option maxHeartbeats 4000000 in
theorem pword_one (w : World) (b q : Nat) (X : Nat → Prop) (he : WEnv w) (hb3 : 3 ≤ b) (h : Pg w b X []) (hq : Blk w q 35 #[.int .i64 2, .string (BA [120]), .bool true, .int .i64 0, .bool false, .slice none 0 0]) :
    Calls Tryd.prog 23 #[.pointer (some ⟨b, 0, none⟩), .slice (some ⟨q, 0, none⟩) 1 1, .agg #[.func (Fn.func 24) #[] #[], .string ⟨#[34]⟩, .func (Fn.func 25) #[] #[]]] w fun e w' => e = .returned (.tuple #[]) ∧ Puts w b X [34, 36, 123, 120, 125, 34] w' := by
  have hbw := h.lt
  have h2w := he.two
  have hqw := hq.lt
  have hb1 : Below w.heap.size w (w.alloc (.cells #[.func (Fn.func 24) #[] #[], .string ⟨#[34]⟩, .func (Fn.func 25) #[] #[]] 43)) := (Below.refl _ w).alloc (Nat.le_refl _) _
  have HP : Hid (Pg (w.alloc (.cells #[.func (Fn.func 24) #[] #[], .string ⟨#[34]⟩, .func (Fn.func 25) #[] #[]] 43)) b X [] ∧ Below w.heap.size w (w.alloc (.cells #[.func (Fn.func 24) #[] #[], .string ⟨#[34]⟩, .func (Fn.func 25) #[] #[]] 43))) := hide ⟨h.below hb1, hb1⟩
  have hQ : Blk (w.alloc (.cells #[.func (Fn.func 24) #[] #[], .string ⟨#[34]⟩, .func (Fn.func 25) #[] #[]] 43)) q 35 #[.int .i64 2, .string (BA [120]), .bool true, .int .i64 0, .bool false, .slice none 0 0] := hq.alloc _
  have hN : Blk (w.alloc (.cells #[.func (Fn.func 24) #[] #[], .string ⟨#[34]⟩, .func (Fn.func 25) #[] #[]] 43)) w.heap.size 43 #[.func (Fn.func 24) #[] #[], .string ⟨#[34]⟩, .func (Fn.func 25) #[] #[]] := Blk.new w _ _
  have HQ := hide hQ
  have HN := hide hN
  have HE := hide he
  clear he h hb1 hQ hN hq
  go_enter Tryd.func23, Tryd.ntmps23
  go_wp2_with fail
  go_loopw [10] (fun i wr => ∃ k : Nat, i = .int .i64 k ∧ ((k = 0 ∧ wr = w.alloc (.cells #[.func (Fn.func 24) #[] #[], .string ⟨#[34]⟩, .func (Fn.func 25) #[] #[]] 43)) ∨ (k = 1 ∧ Hid (Puts w b X [34, 36, 123, 120, 125, 34] wr)))) (fun i _ => 1 - (intOf i).toNat)
  case atStart => exact ⟨0, rfl, .inl ⟨rfl, rfl⟩⟩
  case round =>
    obtain ⟨k, rfl, ⟨rfl, hwr⟩ | ⟨rfl, HD⟩⟩ := hrel
    · rw [← hwr] at HP HQ HN
      obtain ⟨bv, h1, h2, h3⟩ := (unhide HP).1
      obtain ⟨ba, bc, rfl⟩ := own_len h2
      have c0 : wr.cell? ⟨b, 0, none⟩ = some (.slice ba 0 bc) := h1.cell 0 rfl
      have p0 : wr.cell? ⟨q, 0, none⟩ = some (.int .i64 2) := (unhide HQ).cell 0 rfl
      have p1 : wr.cell? ⟨q, 1, none⟩ = some (.string (BA [120])) := (unhide HQ).cell 1 rfl
      have p2 : wr.cell? ⟨q, 2, none⟩ = some (.bool true) := (unhide HQ).cell 2 rfl
      have p3 : wr.cell? ⟨q, 3, none⟩ = some (.int .i64 0) := (unhide HQ).cell 3 rfl
      have p4 : wr.cell? ⟨q, 4, none⟩ = some (.bool false) := (unhide HQ).cell 4 rfl
      have p5 : wr.cell? ⟨q, 5, none⟩ = some (.slice none 0 0) := (unhide HQ).cell 5 rfl
      have n0 : wr.cell? ⟨w.heap.size, 0, none⟩ = some (.func (Fn.func 24) #[] #[]) := (unhide HN).cell 0 rfl
      have n1 : wr.cell? ⟨w.heap.size, 1, none⟩ = some (.string ⟨#[34]⟩) := (unhide HN).cell 1 rfl
      have n2 : wr.cell? ⟨w.heap.size, 2, none⟩ = some (.func (Fn.func 25) #[] #[]) := (unhide HN).cell 2 rfl
      have hbr := (unhide HP).1.lt
      have hqr := Blk.lt (unhide HQ)
      have hnr := Blk.lt (unhide HN)
      have HPA : Hid (∀ o, Calls Tryd.prog 29 #[.pointer (some ⟨b, 0, none⟩), .agg #[.int .i64 2, .string (BA [120]), .bool true, .int .i64 0, .bool false, .slice none 0 0], .agg #[.func (Fn.func 24) #[] #[], .string ⟨#[34]⟩, .func (Fn.func 25) #[] #[]]] (wr.alloc o) fun e w' => e = .returned (.tuple #[]) ∧ Puts w b X [34, 36, 123, 120, 125, 34] w') := hide (fun o => by
        have hb2 : Below wr.heap.size wr (wr.alloc o) := (Below.refl _ _).alloc (Nat.le_refl _) _
        have hb3' := (unhide HP).2.trans (hb2.mono (unhide HP).2.size)
        exact (ppart_zero [120] _ b X [] ((unhide HE).below (hb3'.mono (by omega))) hb3 ((unhide HP).1.below hb2) (by simp)).mono (fun _ _ ⟨h1, h2⟩ => ⟨h1, h2.of_below hb3'⟩))
      clear h1 h2 h3 HP HQ HN hwr
      go_wp2_with fail
      refine (unhide HPA _).mono ?_
      rintro e w3 ⟨rfl, a3⟩
      have HD := hide a3
      clear a3
      go_wp2
      go_roundw
      case rel => exact ⟨1, rfl, .inr ⟨rfl, HD⟩⟩
      case measure => simp [intOf]
    · go_wp2
      refine bodyPost_end (res0 rfl _ _) rfl ?_
      exact ⟨rfl, unhide HD⟩

theorem ex_read : wrdL true 0 [34, 36, 123, 120, 125, 34] = .ok [.mk 2 [120] true 0 false []] := by kernel_rfl
theorem results_pen {fn : Func} {t : Tmp} (h : fn.results = #[.cell t 43]) (tmps : Array Value) (w : World) (b : Nat) (a0 a1 a2 : Value) (ht : tmps.getD t undef = .pointer (some ⟨b, 0, none⟩)) (hb : Blk w b 43 #[a0, a1, a2]) :
    (results fn tmps).run Tryd.prog w = .ok (.agg #[a0, a1, a2]) w := by
  have ht' : tmps[t]?.getD undef = .pointer (some ⟨b, 0, none⟩) := by simpa using ht
  have h0 := hb.cell 0 (v := a0) rfl
  have h1 := hb.cell 1 (v := a1) rfl
  have h2 := hb.cell 2 (v := a2) rfl
  simp [results, h, ht', go_sem, h0, h1, h2]
set_option maxHeartbeats 1000000 in
theorem plainPen_any (w : World) : Calls Tryd.prog 20 #[] w fun e w' => e = .returned (.agg #[.func (Fn.func 24) #[] #[], .string ⟨#[34]⟩, .func (Fn.func 25) #[] #[]]) ∧ Below w.heap.size w w' := by
  go_enter Tryd.func20, Tryd.ntmps20
  go_wp2
  exact bodyPost_ret (v := .agg #[.func (Fn.func 24) #[] #[], .string ⟨#[34]⟩, .func (Fn.func 25) #[] #[]]) (results_pen rfl _ _ w.heap.size _ _ _ rfl (Blk.new w _ _)) rfl ⟨rfl, (Below.refl _ _).alloc (Nat.le_refl _) _⟩
set_option maxRecDepth 20000 in
set_option maxHeartbeats 4000000 in
theorem printed_one (w : World) (q : Nat) (he : WEnv w) (hq : Blk w q 35 #[.int .i64 2, .string (BA [120]), .bool true, .int .i64 0, .bool false, .slice none 0 0]) :
    Calls Tryd.prog 19 #[.slice (some ⟨q, 0, none⟩) 1 1, .agg #[.func (Fn.func 24) #[] #[], .string ⟨#[34]⟩, .func (Fn.func 25) #[] #[]], .func (Fn.func 13) #[] #[]] w fun e w' => e = .returned (.tuple #[.string ⟨#[34, 36, 123, 120, 125, 34]⟩, .int .i64 0]) ∧ Below w.heap.size w w' := by
  have h2w := he.two
  have hqw := hq.lt
  have HWA : Hid (WAt w (fun k => k = q) (.slice (some ⟨q, 0, none⟩) 1 1) [.mk 2 [120] true 0 false []]) := hide ⟨_, _, rfl, by simp, .inr ⟨q, 0, rfl, rfl, PsAt.of (fun i p hi => by
    match i, hi with
    | 0, hi =>
      simp at hi
      subst hi
      exact (PAt_mk ..).2 ⟨hq.cell 0 rfl, hq.cell 1 rfl, hq.cell 2 rfl, hq.cell 3 rfl, hq.cell 4 rfl, _, hq.cell 5 rfl, wat_nil _ _ _ _⟩
    | i + 1, hi => simp at hi)⟩⟩
  have HW2 : Hid (∀ o, Below w.heap.size w ((w.alloc o).alloc (.cells #[.slice none 0 0] 49)) ∧ Pg ((w.alloc o).alloc (.cells #[.slice none 0 0] 49)) (w.heap.size + 1) (fun k => k = w.heap.size + 1) []) := hide (fun o => by
    have hb : Below w.heap.size w ((w.alloc o).alloc (.cells #[.slice none 0 0] 49)) := ((Below.refl _ w).alloc (Nat.le_refl _) _).alloc (by simp) _
    refine ⟨hb, .slice none 0 0, ?_, ownB_nil _ _, rfl, by simp [Value.ownBlock], fun k e => by omega, fun k e => by simp; omega⟩
    have := Blk.new (w.alloc o) 49 #[.slice none 0 0]
    rwa [show (w.alloc o).heap.size = w.heap.size + 1 by simp] at this)
  have HE := hide he
  have HQ := hide hq
  clear he hq
  go_enter Tryd.func19, Tryd.ntmps19
  go_wp2_with fail
  refine (pword_one _ (w.heap.size + 1) q _ ((unhide HE).below ((unhide HW2 _).1.mono (by omega))) (by omega) (unhide HW2 _).2 (Blk.below (unhide HQ) (unhide HW2 _).1 hqw)).mono ?_
  rintro e w3 ⟨rfl, X3, ⟨bv, h1, h2, h3⟩, g3, hx3⟩
  have HB3 := hide ((unhide HW2 _).1.trans (g3.below (n := w.heap.size) (by simp; omega) (fun k e => by omega)))
  have c0 : w3.cell? ⟨w.heap.size + 1, 0, none⟩ = some bv := h1.cell 0 rfl
  have hcv := h2.text
  obtain ⟨ba, bn, bc, hbv⟩ := slice_own h2
  subst hbv
  have HPA : Hid (Calls Tryd.prog 13 #[.string (BA [34, 36, 123, 120, 125, 34])] w3 fun e w' => ∃ v, e = .returned (.tuple #[v, .int .i64 0]) ∧ Below w3.heap.size w3 w' ∧ WAt w' (fun k => w3.heap.size ≤ k ∧ k < w'.heap.size) v [.mk 2 [120] true 0 false []]) := hide (by
    have := parse_any [34, 36, 123, 120, 125, 34] w3 ((unhide HE).below ((unhide HB3).mono (by omega))) (by simp)
    rw [ex_read] at this
    exact this)
  clear h1 h2 h3 g3 hx3 HW2
  go_wp2_with fail
  refine (unhide HPA).mono ?_
  rintro e w4 ⟨v, rfl, b4, hv⟩
  have HB4 := hide ((unhide HB3).trans (b4.mono (unhide HB3).size))
  have HSM : Hid (Calls Tryd.prog 9 #[v, .slice (some ⟨q, 0, none⟩) 1 1] w4 fun e w' => e = .returned (.bool true) ∧ Below w4.heap.size w4 w') := hide (by
    have := same_any [.mk 2 [120] true 0 false []] [.mk 2 [120] true 0 false []] v (.slice (some ⟨q, 0, none⟩) 1 1) w4 _ (fun k => k = q) hv ((unhide HWA).below (unhide HB4) (fun k e => by omega)) (fun k h => h.2) (fun k e => by have := (unhide HB4).size; omega)
    rwa [sameW_refl] at this)
  clear b4 hv HPA
  go_wp2_with fail
  refine (unhide HSM).mono ?_
  rintro e w5 ⟨rfl, b5⟩
  have HB5 := hide ((unhide HB4).trans (b5.mono (unhide HB4).size))
  clear b5
  go_wp2
  go_ret2
  exact ⟨rfl, unhide HB5⟩
set_option maxHeartbeats 4000000 in
theorem print_one (w : World) (q : Nat) (he : WEnv w) (hq : Blk w q 35 #[.int .i64 2, .string (BA [120]), .bool true, .int .i64 0, .bool false, .slice none 0 0]) :
    Calls Tryd.prog 12 #[.slice (some ⟨q, 0, none⟩) 1 1] w fun e w' => e = .returned (.tuple #[.string ⟨#[34, 36, 123, 120, 125, 34]⟩, .int .i64 0]) ∧ Below w.heap.size w w' := by
  have h2w := he.two
  have HE := hide he
  have HQ := hide hq
  clear he hq
  go_enter Tryd.func12, Tryd.ntmps12
  go_wp2_with fail
  refine (plainPen_any _).mono ?_
  rintro e w1 ⟨rfl, b1⟩
  have HB := hide b1
  have HP := hide (printed_one w1 q ((unhide HE).below (b1.mono (by omega))) (Blk.below (unhide HQ) b1 (Blk.lt (unhide HQ))))
  clear b1
  go_wp2_with fail
  refine (unhide HP).mono ?_
  rintro e w2 ⟨rfl, b2⟩
  have HB2 := hide ((unhide HB).trans (b2.mono (unhide HB).size))
  clear b2
  go_wp2
  go_ret2
  exact ⟨rfl, unhide HB2⟩

end Go.Proofs.YtodcfgbcigjjfaaDoor

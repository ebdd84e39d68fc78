/-
  The document's table: Copy's walk.
-/
import Derived.Test.YtcfhgjlihifmnaaIRefC
namespace Go.Proofs.Ytcfhgjlihifmnaa
open Go.RowKit Go.Maps

/-- A round at a node that is there. -/
theorem CQ.atSome {w wr W1 : World} {T : TB} {i hb hc : Nat} {v : Value} {h' c' : Nat → Nat} {x : Nd} (H : CQ w wr T i v h' c') (ho : ((none : Option Nd) :: T)[i]? = some (some x)) (hi : i ≤ 1025) (hh : HasRow wr hb x.has) (hW1 : W1 = wr.alloc (.cells (rcs hb hc (some x)).toArray 44)) :
    ∃ g cap W2, (∀ ty, (Builtin.append_ #[42, 42] ty #[.slice none 0 0, .slice (some ⟨hb, 0, none⟩) 64 hc]).run Try.prog W1 = .ok (.slice (some ⟨g, 0, none⟩) 64 cap) W2) ∧ (∀ j, j < 5 → W2.cell? ⟨wr.heap.size, j, none⟩ = some (rcell hb hc (some x) j) ∧ W2.frozen? ⟨wr.heap.size, j, none⟩ = false) ∧
      ∃ v' W5, (∀ ty, (Builtin.append_ #[67, 67] ty #[v, .slice (some ⟨W2.heap.size, 0, none⟩) 1 1]).run Try.prog ((W2.setCell ⟨wr.heap.size, 4, none⟩ (.slice (some ⟨g, 0, none⟩) 64 cap)).alloc (.cells (rcs g cap (some x)).toArray 44)) = .ok v' W5) ∧ (∃ ad n c, v' = .slice ad n c) ∧ CQ w W5 T (i + 1) v' (updN h' i g) (updN c' i cap) := by
  have hb1 : Below wr.heap.size wr W1 := by rw [hW1]; exact (Below.refl _ _).alloc (Nat.le_refl _) _
  have k1 : Blk W1 wr.heap.size 44 (rcs hb hc (some x)).toArray := by rw [hW1]; exact Blk.new _ _ _
  obtain ⟨g, cap, W2, r1, h2, h3, h4⟩ := has_copy (c := hc) (hh.grownS (S := fun _ => False) (grownS_of_below hb1) (fun e => e))
  have k2 := k1.grownS (S := fun _ => False) (grownS_of_below h3) (fun e => e)
  have hg3 : GrownS wr (W2.setCell ⟨wr.heap.size, 4, none⟩ (.slice (some ⟨g, 0, none⟩) 64 cap)) (fun _ => False) := by
    have h5 : GrownS W2 (W2.setCell ⟨wr.heap.size, 4, none⟩ (.slice (some ⟨g, 0, none⟩) 64 cap)) (fun k => k = wr.heap.size) := GrownS.of (grown_setCell W2 _ _) (fun k e => by simpa using e)
    have h6 : GrownS wr W2 (fun _ => False) := (grownS_of_below hb1).trans (grownS_of_below h3)
    exact ⟨h5.os.trans h6.os, h5.tape.trans h6.tape, h5.output.trans h6.output, Nat.le_trans h6.size h5.size, fun k hk _ => (h5.block k (Nat.lt_of_lt_of_le hk h6.size) (fun e => by omega)).trans (h6.block k hk (fun e => e))⟩
  have hgs : W1.heap.size = wr.heap.size + 1 := by rw [hW1]; simp
  have hhas3 : HasRow (W2.setCell ⟨wr.heap.size, 4, none⟩ (.slice (some ⟨g, 0, none⟩) 64 cap)) g x.has := by
    have h5 : GrownS W2 (W2.setCell ⟨wr.heap.size, 4, none⟩ (.slice (some ⟨g, 0, none⟩) 64 cap)) (fun k => k = wr.heap.size) := GrownS.of (grown_setCell W2 _ _) (fun k e => by simpa using e)
    exact h2.grownS h5 (fun e => by omega)
  obtain ⟨v', W5, r2, hv, hC⟩ := H.next ho hi (g := g) (cap := cap) hg3 (fun y e => by
    injection e with e
    subst e
    exact ⟨hhas3, by omega⟩) rfl
  have hsz : (W2.setCell ⟨wr.heap.size, 4, none⟩ (.slice (some ⟨g, 0, none⟩) 64 cap)).heap.size = W2.heap.size := by simp
  rw [hsz] at r2
  exact ⟨g, cap, W2, r1, fun j hj => ⟨k2.cell j (by rw [List.getElem?_toArray]; exact rcs_get hb hc (some x) hj), k2.frozen j⟩, v', W5, r2, hv, hC⟩
/-- A round at a node that is none. -/
theorem CQ.atNone {w wr W1 : World} {T : TB} {i hb hc : Nat} {v : Value} {h' c' : Nat → Nat} (H : CQ w wr T i v h' c') (ho : ((none : Option Nd) :: T)[i]? = some none) (hi : i ≤ 1025) (hW1 : W1 = wr.alloc (.cells (rcs hb hc none).toArray 44)) :
    (∀ (u : World) ty, (Builtin.append_ #[42, 42] ty #[.slice none 0 0, .slice none 0 0]).run Try.prog u = .ok (.slice none 0 0) u) ∧
      ∃ v' W5, (∀ ty, (Builtin.append_ #[67, 67] ty #[v, .slice (some ⟨wr.heap.size + 1, 0, none⟩) 1 1]).run Try.prog (W1.alloc (.cells (rcs hb hc none).toArray 44)) = .ok v' W5) ∧ (∃ ad n c, v' = .slice ad n c) ∧ CQ w W5 T (i + 1) v' (updN h' i hb) (updN c' i hc) := by
  have hb1 : Below wr.heap.size wr W1 := by rw [hW1]; exact (Below.refl _ _).alloc (Nat.le_refl _) _
  obtain ⟨i4, hi4, hz, hs, hbb⟩ := info2 (t := 4) (z := some (.bool false)) (a := 1) (c := 1) (by kernel_rfl)
  obtain ⟨v', W5, r2, hv, hC⟩ := H.next ho hi (g := hb) (cap := hc) (grownS_of_below hb1) (fun y e => by cases e) rfl
  have hsz : W1.heap.size = wr.heap.size + 1 := by rw [hW1]; simp
  rw [hsz] at r2
  exact ⟨fun u ty => run_append_zero (P := Try.prog) 0 42 ty 4 i4 1 (by kernel_rfl) hi4 (.slice none 0 0) 0 [] (World.ownsRow_nil _ _ _ _) none 0, v', W5, r2, hv, hC⟩
set_option maxRecDepth 20000 in
set_option maxHeartbeats 2000000 in
theorem rcopy_any {w : World} {q nb : Nat} {Y : Nat → Prop} {T : TB} (H : RAt w q Y T nb) : Calls Try.prog 13 #[.pointer (some ⟨q, 0, none⟩)] w fun e w' => ∃ q', e = .returned (.pointer (some ⟨q', 0, none⟩)) ∧ Hid (RAt w' q' (fun k => w.heap.size ≤ k) T nb ∧ Below w.heap.size w w') := by
  obtain ⟨K, HL, hin⟩ := H
  have hmx := HL.max
  have hlt := HL.lt
  obtain ⟨CX, hCX⟩ : ∃ P : World → Nat → Value → (Nat → Nat) → (Nat → Nat) → Prop, P = fun wr i v h' c' => CQ w wr T i v h' c' := ⟨_, rfl⟩
  have HS0 : Hid (CX w 0 (.slice none 0 0) (fun _ => 0) (fun _ => 0)) := hide (by
    rw [hCX]
    exact ⟨Below.refl _ _, ⟨[], World.ownsRow_nil _ _ _ _, fun m o hm => by omega⟩, fun m x hm => by omega, fun m k x y hm => by omega⟩)
  have HQ : Hid (∀ wr i v h' c', CX wr i v h' c' → wr.cell? ⟨q, 0, none⟩ = some (.slice (some ⟨K.r, 0, none⟩) (T.length + 1) K.c) ∧ wr.cell? ⟨q, 1, none⟩ = some (.int .i64 (nb : Int)) ∧ q < wr.heap.size ∧ K.r < wr.heap.size) := hide (fun wr i v h' c' h => by
    rw [hCX] at h
    have k2 := HL.tab.below h.bel hlt.q
    exact ⟨k2.cell 0 rfl, k2.cell 1 rfl, k2.lt, Nat.lt_of_lt_of_le hlt.r h.bel.size⟩)
  have HN : Hid (∀ wr i v h' c', CX wr i v h' c' → i < T.length + 1 → ((none : Option Nd) :: T)[i]? = some none → (∀ j, j < 5 → wr.cell? ⟨K.r, i * 5 + j, none⟩ = some (rcell 0 0 none j)) ∧ (∀ (u : World) ty, (Builtin.append_ #[42, 42] ty #[.slice none 0 0, .slice none 0 0]).run Try.prog u = .ok (.slice none 0 0) u) ∧ ∃ v' W5, (∀ ty, (Builtin.append_ #[67, 67] ty #[v, .slice (some ⟨wr.heap.size + 1, 0, none⟩) 1 1]).run Try.prog ((wr.alloc (.cells #[.int .i64 0, .int .i64 0, .int .i64 0, .string ⟨#[]⟩, .slice none 0 0] 44)).alloc (.cells #[.int .i64 0, .int .i64 0, .int .i64 0, .string ⟨#[]⟩, .slice none 0 0] 44)) = .ok v' W5) ∧ (∃ ad n c, v' = .slice ad n c) ∧ Hid (∃ h2 c2, CX W5 (i + 1) v' h2 c2)) := hide (fun wr i v h' c' h hil ho => by
    rw [hCX] at h ⊢
    obtain ⟨cs, kr, z1, z2, z3, z4⟩ := HL.row
    obtain ⟨a1, v', W5, a2, a3, a4⟩ := h.atNone ho (by omega) (hb := 0) (hc := 0) rfl
    exact ⟨fun j hj => by
      have := (kr.below h.bel hlt.r).cell _ (z4 i none ho j hj)
      match j, hj with
      | 0, _ => exact this
      | 1, _ => exact this
      | 2, _ => exact this
      | 3, _ => exact this
      | 4, _ => exact this, a1, v', W5, a2, a3, hide ⟨_, _, a4⟩⟩)
  have HSM : Hid (∀ wr i v h' c' x, CX wr i v h' c' → i < T.length + 1 → ((none : Option Nd) :: T)[i]? = some (some x) → ∃ hb hc, (∀ j, j < 5 → wr.cell? ⟨K.r, i * 5 + j, none⟩ = some (rcell hb hc (some x) j)) ∧ ∃ g cap W2, (∀ ty, (Builtin.append_ #[42, 42] ty #[.slice none 0 0, .slice (some ⟨hb, 0, none⟩) 64 hc]).run Try.prog (wr.alloc (.cells #[rcell hb hc (some x) 0, rcell hb hc (some x) 1, rcell hb hc (some x) 2, rcell hb hc (some x) 3, rcell hb hc (some x) 4] 44)) = .ok (.slice (some ⟨g, 0, none⟩) 64 cap) W2) ∧ (∀ j, j < 5 → W2.cell? ⟨wr.heap.size, j, none⟩ = some (rcell hb hc (some x) j) ∧ W2.frozen? ⟨wr.heap.size, j, none⟩ = false) ∧
      ∃ v' W5, (∀ ty, (Builtin.append_ #[67, 67] ty #[v, .slice (some ⟨W2.heap.size, 0, none⟩) 1 1]).run Try.prog ((W2.setCell ⟨wr.heap.size, 4, none⟩ (.slice (some ⟨g, 0, none⟩) 64 cap)).alloc (.cells #[rcell g cap (some x) 0, rcell g cap (some x) 1, rcell g cap (some x) 2, rcell g cap (some x) 3, rcell g cap (some x) 4] 44)) = .ok v' W5) ∧ (∃ ad n c, v' = .slice ad n c) ∧ Hid (∃ h2 c2, CX W5 (i + 1) v' h2 c2)) := hide (fun wr i v h' c' x h hil ho => by
    rw [hCX] at h ⊢
    obtain ⟨cs, kr, z1, z2, z3, z4⟩ := HL.row
    obtain ⟨m, rfl⟩ : ∃ m, i = m + 1 := by
      cases i with
      | zero => simp at ho
      | succ m => exact ⟨m, rfl⟩
    have hh := (HL.has m x ho).grownS (S := fun _ => False) (grownS_of_below h.bel) (fun e => e)
    obtain ⟨g, cap, W2, r1, r2, v', W5, r3, r4, r5⟩ := h.atSome ho (by omega) hh (hc := K.hc (m + 1)) rfl
    exact ⟨K.h (m + 1), K.hc (m + 1), fun j hj => (kr.below h.bel hlt.r).cell _ (z4 (m + 1) (some x) ho j hj), g, cap, W2, r1, r2, v', W5, r3, r4, hide ⟨_, _, r5⟩⟩)
  have HFI : Hid (∀ wr v h' c', CX wr (T.length + 1) v h' c' → RAt (wr.alloc (.cells #[v, .int .i64 (nb : Int)] 69)) wr.heap.size (fun k => w.heap.size ≤ k) T nb ∧ Below w.heap.size w (wr.alloc (.cells #[v, .int .i64 (nb : Int)] 69))) := hide (fun wr v h' c' h => by
    rw [hCX] at h
    have hb : Below wr.heap.size wr (wr.alloc (.cells #[v, .int .i64 (nb : Int)] 69)) := (Below.refl _ _).alloc (Nat.le_refl _) _
    obtain ⟨xs, ⟨hxl, ⟨_, h0⟩ | ⟨g, cap, cur, rfl, hbg, hg, hnc, hcm, hcs, htake⟩⟩, hxs⟩ := h.own
    · omega
    refine ⟨⟨⟨g, cap, h', c'⟩, ⟨HL.pos, HL.max, Blk.new _ _ _, ⟨cur, Blk.alloc hg _, hcs, hnc, hcm, fun m o ho j hj => ?_⟩, fun m x hx => (h.has (m + 1) x (by have := (List.getElem?_eq_some_iff.1 hx).1; omega) hx).1.grownS (S := fun _ => False) (grownS_of_below hb) (fun e => e), fun m k x y hx hy hne => h.apart (m + 1) (k + 1) x y (by have := (List.getElem?_eq_some_iff.1 hx).1; omega) (by have := (List.getElem?_eq_some_iff.1 hy).1; omega) hx hy (by omega)⟩, ⟨h.bel.size, hbg, fun m x hx => (h.has (m + 1) x (by have := (List.getElem?_eq_some_iff.1 hx).1; omega) hx).2⟩⟩, h.bel.trans (hb.mono h.bel.size)⟩
    have hml : m < T.length + 1 := by have := (List.getElem?_eq_some_iff.1 ho).1; simpa using this
    have h7 := hxs m o hml ho j hj
    rw [← htake, List.getElem?_take, if_pos (by omega)] at h7
    simpa using h7)
  obtain ⟨n, hn⟩ : ∃ n, n = T.length := ⟨_, rfl⟩
  obtain ⟨r, hr⟩ : ∃ r, r = K.r := ⟨_, rfl⟩
  obtain ⟨c, hc⟩ : ∃ c, c = K.c := ⟨_, rfl⟩
  rw [← hn, ← hr, ← hc] at HQ
  rw [← hn, ← hr] at HN HSM
  rw [← hn] at HFI hmx
  have HLN := hide hn
  have hCS : ∀ wr i v h' c', CX wr i v h' c' → ∃ ad m c2, v = .slice ad m c2 := fun wr i v h' c' h => by
    rw [hCX] at h
    obtain ⟨xs, ⟨_, ⟨rfl, _⟩ | ⟨g, cap, cur, rfl, _⟩⟩, _⟩ := h.own
    · exact ⟨_, _, _, rfl⟩
    · exact ⟨_, _, _, rfl⟩
  have HCS := hide hCS
  clear HL hin hlt hCX hn hr hc hCS
  go_enter Try.func13, Try.ntmps13
  go_wp2_with fail
  go_loopw [3, 4] (fun v iv wr => ∃ (i : Nat) (h' c' : Nat → Nat), iv = .int .i64 (i : Int) ∧ i ≤ n + 1 ∧ Hid (CX wr i v h' c')) (fun _ iv _ => n + 2 - (intOf iv).toNat)
  case atStart => exact ⟨0, _, _, rfl, by omega, HS0⟩
  case round =>
    clear HS0
    obtain ⟨i, h', c', rfl, hi, HC⟩ := hrel
    obtain ⟨z0, z1, zq, zr⟩ := unhide HQ wr i _ h' c' (unhide HC)
    obtain ⟨va, vm, vc, rfl⟩ := unhide HCS wr i _ h' c' (unhide HC)
    by_cases hlt : i < n + 1
    · have hlt1 : (i : Int) < (n : Int) + 1 := by omega
      have h0 : (0 : Int) ≤ (i : Int) := by omega
      obtain ⟨o, ho⟩ : ∃ o, ((none : Option Nd) :: T)[i]? = some o := ⟨_, List.getElem?_eq_getElem (by have := unhide HLN; simp; omega)⟩
      cases o with
      | none =>
        obtain ⟨y1, y2, v', W5, y3, ⟨ad, m, c2, rfl⟩, Y4⟩ := unhide HN wr i _ h' c' (unhide HC) hlt ho
        have e0 := y1 0 (by decide)
        have e1 := y1 1 (by decide)
        have e2 := y1 2 (by decide)
        have e3 := y1 3 (by decide)
        have e4 := y1 4 (by decide)
        change wr.cell? ⟨r, i * 5, none⟩ = some (.int .i64 0) at e0
        change wr.cell? _ = some (.int .i64 0) at e1
        change wr.cell? _ = some (.int .i64 0) at e2
        change wr.cell? _ = some (.string ⟨#[]⟩) at e3
        change wr.cell? _ = some (.slice none 0 0) at e4
        have HY2 := hide y2
        have HY3 := hide y3
        clear y1 y2 y3 ho HN HSM HFI HQ HCS
        go_wp2_with (first
          | (at_builtin; refine wpList_append_run rfl _ _ _ rfl _ _ _ rfl rfl (fun ty => unhide HY2 _ ty) ?_)
          | (at_builtin; refine wpList_append_run rfl _ _ _ rfl _ _ _ rfl rfl (unhide HY3) ?_)
          | go_in)
        go_roundw
        case rel =>
          obtain ⟨h2, c3, hC⟩ := unhide Y4
          exact ⟨i + 1, h2, c3, by go_num, by omega, hide hC⟩
        case measure => simp [intOf]; omega
      | some x =>
        obtain ⟨hb, hc, y1, g, cap, W2, y2, y3, v', W5, y4, ⟨ad, m, c2, rfl⟩, Y5⟩ := unhide HSM wr i _ h' c' x (unhide HC) hlt ho
        have e0 := y1 0 (by decide)
        have e1 := y1 1 (by decide)
        have e2 := y1 2 (by decide)
        have e3 := y1 3 (by decide)
        have e4 := y1 4 (by decide)
        obtain ⟨d0, _⟩ := y3 0 (by decide)
        obtain ⟨d1, _⟩ := y3 1 (by decide)
        obtain ⟨d2, _⟩ := y3 2 (by decide)
        obtain ⟨d3, _⟩ := y3 3 (by decide)
        obtain ⟨d4, f4⟩ := y3 4 (by decide)
        simp only [rcell] at e0 e1 e2 e3 e4 d0 d1 d2 d3 d4 y2 y4
        rw [Nat.add_zero] at e0
        obtain ⟨dd, hdd⟩ : ∃ dd, dd = BA (datOf x) := ⟨_, rfl⟩
        obtain ⟨nm, hnm⟩ : ∃ nm, nm = x.names := ⟨_, rfl⟩
        obtain ⟨us, hus⟩ : ∃ us, us = x.users := ⟨_, rfl⟩
        obtain ⟨kd, hkd⟩ : ∃ kd, kd = x.kind := ⟨_, rfl⟩
        simp only [← hdd, ← hnm, ← hus, ← hkd] at e0 e1 e2 e3 e4 d0 d1 d2 d3 d4 y2 y4
        have HY2 := hide y2
        have HY4 := hide y4
        clear y1 y2 y3 y4 ho HN HSM HFI HQ HCS hdd hnm hus hkd
        go_wp2_with (first
          | (at_builtin; refine wpList_append_run rfl _ _ _ rfl _ _ _ rfl rfl (unhide HY2) ?_)
          | (at_builtin; refine wpList_append_run rfl _ _ _ rfl _ _ _ rfl rfl (unhide HY4) ?_)
          | go_in)
        go_roundw
        case rel =>
          obtain ⟨h2, c3, hC⟩ := unhide Y5
          exact ⟨i + 1, h2, c3, by go_num, by omega, hide hC⟩
        case measure => simp [intOf]; omega
    · have hlt1 : ¬ (i : Int) < (n : Int) + 1 := by omega
      obtain rfl : i = n + 1 := by omega
      have HZ := hide (unhide HFI wr _ h' c' (unhide HC))
      clear HN HSM HFI HQ HCS
      go_wp2
      go_ret
      exact ⟨_, rfl, hide (unhide HZ)⟩

end Go.Proofs.Ytcfhgjlihifmnaa

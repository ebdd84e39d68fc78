/-
  The list of parts of package word: goesOn, settle, add.
-/
import Derived.Test.YtodcfgbcigjjfaaDoorLMem
import Derived.Deep.RegionHeld3
import Derived.RegionTactic
import Derived.BigRegion
namespace Go.Proofs.YtodcfgbcigjjfaaDoor
open Go.RowKit

/-- Whether a part is more of the last one. -/
def goesB (L : List (Prt × Value)) (p : Prt) : Bool := match L.getLast? with
  | none => false
  | some x => p.kind == 1 && (x.1.kind == 1 && x.1.quote == p.quote)

theorem last_ex {L : List (Prt × Value)} (h : L ≠ []) : ∃ M x, L = M ++ [x] := ⟨L.dropLast, L.getLast h, (List.dropLast_concat_getLast h).symm⟩

set_option maxRecDepth 20000 in
set_option maxHeartbeats 4000000 in
theorem goesOn_any (w : World) (b : Nat) (X A : Nat → Prop) (L : List (Prt × Value)) (bs : List UInt8) (pv bv x : Value) (p : Prt) (h : LSg w b X L bs pv bv) (hx : PV w A x p) (hl : L.length ≤ 100000) :
    Calls Tryd.prog 41 #[.pointer (some ⟨b, 0, none⟩), x] w fun e w' => e = .returned (.bool (goesB L p)) ∧ Below w.heap.size w w' := by
  obtain ⟨v, rfl, hs⟩ := hx
  obtain ⟨ad, cap, rfl, hsh⟩ := h.pshape
  have c0 : w.cell? ⟨b, 0, none⟩ = some (.slice ad L.length cap) := h.blk.cell 0 rfl
  have hbl := h.blk.lt
  by_cases hL : L = []
  · subst hL
    clear hsh h hs
    go_enter Tryd.func41, Tryd.ntmps41
    go_wp2
    go_ret
    exact ⟨rfl, (Below.refl _ w).alloc (Nat.le_refl _) _⟩
  obtain ⟨M, y, rfl⟩ := last_ex hL
  obtain ⟨g, rfl, hg, _, _, _, hc⟩ := hsh M.length y (by simp)
  have hln : (M ++ [y]).length = M.length + 1 := by simp
  rw [hln] at c0 hl
  have hgo : goesB (M ++ [y]) p = (p.kind == 1 && (y.1.kind == 1 && y.1.quote == p.quote)) := by unfold goesB; simp
  rw [hgo]
  have y0 : w.cell? ⟨g, M.length * 6, none⟩ = some (.int .i64 y.1.kind) := hc 0 _ rfl (by decide)
  have y1 : w.cell? ⟨g, M.length * 6 + 1, none⟩ = some (.string (BA y.1.text)) := hc 1 _ rfl (by decide)
  have y2 : w.cell? ⟨g, M.length * 6 + 2, none⟩ = some (.bool y.1.quote) := hc 2 _ rfl (by decide)
  have y3 : w.cell? ⟨g, M.length * 6 + 3, none⟩ = some (.int .i64 y.1.op) := hc 3 _ rfl (by decide)
  have y4 : w.cell? ⟨g, M.length * 6 + 4, none⟩ = some (.bool y.1.colon) := hc 4 _ rfl (by decide)
  have y5 : w.cell? ⟨g, M.length * 6 + 5, none⟩ = some y.2 := hc 5 _ rfl (by decide)
  obtain ⟨yv, yn, yc, hy⟩ : ∃ a n c, y.2 = .slice a n c := by
    obtain ⟨a, c, e, _⟩ := (h.sub y (by simp)).len
    exact ⟨_, _, _, e⟩
  rw [hy] at y5
  generalize M.length = n at *
  have hn0 : ((n : Int) + 1 == 0) = false := by rw [beq_eq_false_iff_ne]; omega
  clear hsh h hs hc hgo hL hy hln
  rcases Bool.eq_false_or_eq_true (p.kind == 1) with hk | hk
  · have hk2 : (p.kind != 1) = false := by simpa using hk
    go_enter Tryd.func41, Tryd.ntmps41
    go_wp2
    go_region
    go_wp2
    all_goals
      go_ret
      refine ⟨ret_bool (by simp [*]), ?_⟩
      first
      | exact (((Below.refl _ w).alloc (Nat.le_refl _) _).alloc (by simp) _).drew
      | exact (((Below.refl _ w).alloc (Nat.le_refl _) _).drew).alloc (by simp) _
  · have hk2 : (p.kind != 1) = true := by simpa using hk
    go_enter Tryd.func41, Tryd.ntmps41
    go_wp2
    go_ret
    rw [hk]
    exact ⟨rfl, (Below.refl _ w).alloc (Nat.le_refl _) _⟩

theorem grownX {w : World} {a : Addr} {X : Nat → Prop} (h : X a.block) (v : Value) : GrownS w (w.setCell a v) X := GrownS.of (grown_setCell w a v) (fun k e => by
  have : k = a.block := by simpa using e
  rw [this]
  exact h)
/-- The last part's bytes, settled. -/
def setT (x : Prt × Value) (bs : List UInt8) : Prt × Value := (.mk x.1.kind bs x.1.quote x.1.op x.1.colon x.1.sub, x.2)
theorem LSg.text {w : World} {b g cap : Nat} {X : Nat → Prop} {M : List (Prt × Value)} {y : Prt × Value} {bs t : List UInt8} {bv : Value} (h : LSg w b X (M ++ [y]) bs (.slice (some ⟨g, 0, none⟩) (M.length + 1) cap) bv) :
    LSg (w.setCell ⟨g, M.length * 6 + 1, none⟩ (.string (BA t))) b X (M ++ [setT y t]) bs (.slice (some ⟨g, 0, none⟩) (M.length + 1) cap) bv := by
  have hXg : X g := h.xp g rfl
  have gs : GrownS w (w.setCell ⟨g, M.length * 6 + 1, none⟩ (.string (BA t))) (fun k => k = g) := GrownS.of (grown_setCell w ⟨g, M.length * 6 + 1, none⟩ _) (fun k e => by simpa using e)
  have hrow := h.row
  rw [show (M ++ [y]).length = M.length + 1 by simp] at hrow
  have hbg : b ≠ g := by
    have := (World.ownsRow.lt hrow g rfl).1
    omega
  refine ⟨h.blk.grownS gs hbg, ?_, own_grownS h.own gs (fun k hk e => h.ne_pb (k := g) rfl (by rw [← e]; exact hk)), ?_, h.xb, h.xp, h.xv, h.lo, fun k hk => by have := h.hi k hk; simpa using this⟩
  · have := own_set hrow (M.length * 6 + 1) (.string (BA t))
    rw [show (M ++ [setT y t]).length = M.length + 1 by simp]
    rw [flatP_snoc] at this ⊢
    rw [List.set_append_right _ _ (by rw [flatP_len]; omega), flatP_len, show M.length * 6 + 1 - M.length * 6 = 1 by omega] at this
    exact this
  · intro x hx
    have hk : ∀ v s, WAt w (InW b X w) v s → WAt (w.setCell ⟨g, M.length * 6 + 1, none⟩ (.string (BA t))) (InW b X (w.setCell ⟨g, M.length * 6 + 1, none⟩ (.string (BA t)))) v s := fun v s hv =>
      hv.kept (fun k hk => gs.block k hk.2.1 (fun e => hk.2.2 (by rw [e]; exact hXg))) (fun k hk => ⟨hk.1, by simpa using hk.2.1, hk.2.2⟩)
    rcases List.mem_append.1 hx with hx | hx
    · exact hk _ _ (h.sub x (List.mem_append_left _ hx))
    · simp at hx
      subst hx
      exact hk _ _ (h.sub y (by simp))
theorem LSg.clr {w : World} {b : Nat} {X : Nat → Prop} {L : List (Prt × Value)} {bs : List UInt8} {pv bv : Value} (h : LSg w b X L bs pv bv) : LSg (w.setCell ⟨b, 1, none⟩ (.slice none 0 0)) b X L [] pv (.slice none 0 0) := by
  have gs : GrownS w (w.setCell ⟨b, 1, none⟩ (.slice none 0 0)) (fun k => k = b) := GrownS.of (grown_setCell w ⟨b, 1, none⟩ _) (fun k e => by simpa using e)
  refine ⟨?_, own_grownS h.row gs (fun k hk e => own_type h.row h.blk (by decide) (by rw [← e]; exact hk.symm)), ownB_nil _ _, ?_, h.xb, h.xp, by simp [Value.ownBlock], h.lo, fun k hk => by have := h.hi k hk; simpa using this⟩
  · have := h.blk.set 1 (.slice none 0 0)
    simpa using this
  · intro x hx
    exact (h.sub x hx).kept (fun k hk => gs.block k hk.2.1 (fun e => hk.2.2 (by rw [e]; exact h.xb))) (fun k hk => ⟨hk.1, by simpa using hk.2.1, hk.2.2⟩)

/-- Whether the last part is bytes. -/
def litB (L : List (Prt × Value)) : Bool := match L.getLast? with
  | none => false
  | some x => x.1.kind == 1
def setL (L : List (Prt × Value)) (bs : List UInt8) : List (Prt × Value) := match L.getLast? with
  | none => L
  | some x => if x.1.kind == 1 then L.dropLast ++ [setT x bs] else L

set_option maxRecDepth 20000 in
set_option maxHeartbeats 4000000 in
theorem settle_any (w : World) (b : Nat) (X : Nat → Prop) (L : List (Prt × Value)) (bs : List UInt8) (pv bv : Value) (h : LSg w b X L bs pv bv) (hl : L.length ≤ 100000) :
    Calls Tryd.prog 33 #[.pointer (some ⟨b, 0, none⟩)] w fun e w' => e = .returned (.tuple #[]) ∧ LSg w' b X (setL L bs) [] pv (.slice none 0 0) ∧ GrownS w w' X := by
  obtain ⟨ad, cap, rfl, hsh⟩ := h.pshape
  have c0 : w.cell? ⟨b, 0, none⟩ = some (.slice ad L.length cap) := h.blk.cell 0 rfl
  have c1 : w.cell? ⟨b, 1, none⟩ = some bv := h.blk.cell 1 rfl
  have z1 : w.frozen? ⟨b, 1, none⟩ = false := h.blk.frozen 1
  have hbl := h.blk.lt
  obtain ⟨ba, bn, bc, hbv⟩ := h.bshape
  by_cases hL : L = []
  · subst hL
    have HF : Hid (LSg (w.setCell ⟨b, 1, none⟩ (.slice none 0 0)) b X (setL [] bs) [] (.slice ad 0 cap) (.slice none 0 0) ∧ GrownS w (w.setCell ⟨b, 1, none⟩ (.slice none 0 0)) X) := hide ⟨h.clr, grownX (a := ⟨b, 1, none⟩) h.xb _⟩
    subst hbv
    clear hsh h
    go_enter Tryd.func33, Tryd.ntmps33
    go_wp2
    refine bodyPost_end (res0 rfl _ _) rfl ?_
    exact ⟨rfl, unhide HF⟩
  obtain ⟨M, y, rfl⟩ := last_ex hL
  obtain ⟨g, rfl, hg, _, hbg, hfz, hc⟩ := hsh M.length y (by simp)
  have hln : (M ++ [y]).length = M.length + 1 := by simp
  rw [hln] at c0 hl h ⊢
  have y0 : w.cell? ⟨g, M.length * 6, none⟩ = some (.int .i64 y.1.kind) := hc 0 _ rfl (by decide)
  have y1 : w.cell? ⟨g, M.length * 6 + 1, none⟩ = some (.string (BA y.1.text)) := hc 1 _ rfl (by decide)
  have zy := hfz (M.length * 6 + 1)
  rcases Bool.eq_false_or_eq_true (y.1.kind == 1) with hk | hk
  · have hset : setL (M ++ [y]) bs = M ++ [setT y bs] := by unfold setL; simp [hk]
    have hT := h.text (t := bs)
    have HF : Hid (LSg ((w.setCell ⟨g, M.length * 6 + 1, none⟩ (.string (BA bs))).setCell ⟨b, 1, none⟩ (.slice none 0 0)) b X (setL (M ++ [y]) bs) [] (.slice (some ⟨g, 0, none⟩) (M.length + 1) cap) (.slice none 0 0) ∧ GrownS w ((w.setCell ⟨g, M.length * 6 + 1, none⟩ (.string (BA bs))).setCell ⟨b, 1, none⟩ (.slice none 0 0)) X) := hide ⟨by rw [hset]; exact hT.clr,
      (grownX (a := ⟨g, M.length * 6 + 1, none⟩) (h.xp g rfl) _).trans (grownX (a := ⟨b, 1, none⟩) h.xb _)⟩
    have hcv : (convert 47 9 bv).run Tryd.prog w.drew = .ok (.string (BA bs)) w.drew := OwnB.text (own_drew h.own)
    subst hbv
    generalize M.length = n at *
    have hk2 : y.1.kind = 1 := by simpa using hk
    have hn1 : IntKind.i64.wrap ((n : Int) + 1 - 1) = (n : Int) := by rw [IntKind.wrap_i64]; omega
    clear hsh h hc hset hT hfz hln hL
    go_enter Tryd.func33, Tryd.ntmps33
    go_wp2
    go_region
    go_wp2
    refine bodyPost_end (res0 rfl _ _) rfl ?_
    exact ⟨rfl, (unhide HF).1.below (below_drew _ 1), (unhide HF).2.trans (grownS_of_below (below_drew _ 1))⟩
  · have hset : setL (M ++ [y]) bs = M ++ [y] := by unfold setL; simp [hk]
    have HF : Hid (LSg (w.setCell ⟨b, 1, none⟩ (.slice none 0 0)) b X (setL (M ++ [y]) bs) [] (.slice (some ⟨g, 0, none⟩) (M.length + 1) cap) (.slice none 0 0) ∧ GrownS w (w.setCell ⟨b, 1, none⟩ (.slice none 0 0)) X) := hide ⟨by rw [hset]; exact h.clr, grownX (a := ⟨b, 1, none⟩) h.xb _⟩
    subst hbv
    generalize M.length = n at *
    clear hsh h hc hset hfz hln hL
    go_enter Tryd.func33, Tryd.ntmps33
    go_wp2
    refine bodyPost_end (res0 rfl _ _) rfl ?_
    exact ⟨rfl, unhide HF⟩

end Go.Proofs.YtodcfgbcigjjfaaDoor

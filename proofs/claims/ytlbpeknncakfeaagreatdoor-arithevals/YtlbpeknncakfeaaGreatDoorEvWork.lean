/-
  The document's reader of expressions: its state, and its small methods: live, sign, skip.
  The document's 'op': the operator between two sides that stands at a place, and its rank.
  The operator that the document reads is the program's, but for '+=', '-=', '*=', '/=', '%=', where it reads none.
  The document's own test for a setting sign, against the program's.
-/
import Derived.Test.YtlbpeknncakfeaaGreatDoorRValue
import Derived.Test.YtlbpeknncakfeaaGreatDoorNames
import Derived.Test.YtlbpeknncakfeaaGreatDoorExpr
import Derived.Test.YtlbpeknncakfeaaGreatDoorParse

/- The document's reader of expressions: its state, and its small methods: live, sign, skip. -/
namespace Go.Proofs.YtlbpeknncakfeaaGreatDoor
open Go.RowKit Go.Maps

/-- Block b is the work on the text s: read up to place p, passed over d times, whether it is none, what went wrong, the variables, what is set. -/
structure Wk (w : World) (b : Nat) (s : ByteArray) (p d : Nat) (f : Bool) (e : Int) (va sv : Value) : Prop where
  blk : Blk w b 66 #[.string s, .int .i64 (p : Int), .int .i64 (d : Int), .bool f, .int .i64 e, va, sv]
  le : p ≤ s.size
  len : s.size ≤ 4096
theorem Wk.kept {w w' : World} {b : Nat} {s : ByteArray} {p d : Nat} {f : Bool} {e : Int} {va sv : Value} (h : Wk w b s p d f e va sv) (hg : w.grownBy w' none) : Wk w' b s p d f e va sv := ⟨h.blk.kept hg (by simp), h.le, h.len⟩
theorem Wk.to {w : World} {b : Nat} {s : ByteArray} {p d : Nat} {f : Bool} {e : Int} {va sv : Value} (h : Wk w b s p d f e va sv) (q : Nat) (hq : q ≤ s.size) : Wk (w.setCell ⟨b, 1, none⟩ (.int .i64 (q : Int))) b s q d f e va sv := ⟨h.blk.set 1 _, hq, h.len⟩
theorem Wk.bad {w : World} {b : Nat} {s : ByteArray} {p d : Nat} {f : Bool} {e : Int} {va sv : Value} (h : Wk w b s p d f e va sv) : Wk (w.setCell ⟨b, 3, none⟩ (.bool true)) b s p d true e va sv := ⟨h.blk.set 3 _, h.le, h.len⟩
theorem Wk.dead {w : World} {b : Nat} {s : ByteArray} {p d : Nat} {f : Bool} {e : Int} {va sv : Value} (h : Wk w b s p d f e va sv) (d' : Nat) : Wk (w.setCell ⟨b, 2, none⟩ (.int .i64 (d' : Int))) b s p d' f e va sv := ⟨h.blk.set 2 _, h.le, h.len⟩
theorem Wk.err {w : World} {b : Nat} {s : ByteArray} {p d : Nat} {f : Bool} {e : Int} {va sv : Value} (h : Wk w b s p d f e va sv) (e' : Int) : Wk (w.setCell ⟨b, 4, none⟩ (.int .i64 e')) b s p d f e' va sv := ⟨h.blk.set 4 _, h.le, h.len⟩
theorem Wk.c0 {w : World} {b : Nat} {s : ByteArray} {p d : Nat} {f : Bool} {e : Int} {va sv : Value} (h : Wk w b s p d f e va sv) : w.cell? ⟨b, 0, none⟩ = some (.string s) := h.blk.cell 0 rfl
theorem Wk.c1 {w : World} {b : Nat} {s : ByteArray} {p d : Nat} {f : Bool} {e : Int} {va sv : Value} (h : Wk w b s p d f e va sv) : w.cell? ⟨b, 1, none⟩ = some (.int .i64 (p : Int)) := h.blk.cell 1 rfl
theorem Wk.c2 {w : World} {b : Nat} {s : ByteArray} {p d : Nat} {f : Bool} {e : Int} {va sv : Value} (h : Wk w b s p d f e va sv) : w.cell? ⟨b, 2, none⟩ = some (.int .i64 (d : Int)) := h.blk.cell 2 rfl
theorem Wk.c3 {w : World} {b : Nat} {s : ByteArray} {p d : Nat} {f : Bool} {e : Int} {va sv : Value} (h : Wk w b s p d f e va sv) : w.cell? ⟨b, 3, none⟩ = some (.bool f) := h.blk.cell 3 rfl
theorem Wk.c4 {w : World} {b : Nat} {s : ByteArray} {p d : Nat} {f : Bool} {e : Int} {va sv : Value} (h : Wk w b s p d f e va sv) : w.cell? ⟨b, 4, none⟩ = some (.int .i64 e) := h.blk.cell 4 rfl
theorem Wk.c5 {w : World} {b : Nat} {s : ByteArray} {p d : Nat} {f : Bool} {e : Int} {va sv : Value} (h : Wk w b s p d f e va sv) : w.cell? ⟨b, 5, none⟩ = some va := h.blk.cell 5 rfl
theorem Wk.c6 {w : World} {b : Nat} {s : ByteArray} {p d : Nat} {f : Bool} {e : Int} {va sv : Value} (h : Wk w b s p d f e va sv) : w.cell? ⟨b, 6, none⟩ = some sv := h.blk.cell 6 rfl

/-- What is read counts. -/
def liveB (d : Nat) (f : Bool) (e : Int) : Bool := (d == 0) && !f && (e == 0)
set_option maxRecDepth 20000 in
theorem rlive_any (b : Nat) (s : ByteArray) (p d : Nat) (f : Bool) (e : Int) (va sv : Value) (w : World) (h : Wk w b s p d f e va sv) :
    Calls Tryz.prog 50 #[.pointer (some ⟨b, 0, none⟩)] w fun e' w' => e' = .returned (.bool (liveB d f e)) ∧ w' = w := by
  have c2 := h.c2
  have c3 := h.c3
  have c4 := h.c4
  clear h
  by_cases hd : d = 0
  · subst hd
    cases f
    · by_cases he : e = 0
      · subst he
        go_enter Tryz.func50, Tryz.ntmps50
        go_wp2
        go_ret
        exact ⟨rfl, rfl⟩
      · have he' : (e == 0) = false := by simpa using he
        have hl : liveB 0 false e = false := by unfold liveB; rw [he']; rfl
        rw [hl]
        go_enter Tryz.func50, Tryz.ntmps50
        go_wp2
        go_ret
        exact ⟨rfl, rfl⟩
    · go_enter Tryz.func50, Tryz.ntmps50
      go_wp2
      go_ret
      exact ⟨rfl, rfl⟩
  · have hd' : ((d : Int) == 0) = false := by simpa using hd
    have hl : liveB d f e = false := by unfold liveB; rw [show (d == 0) = false by simpa using hd]; rfl
    rw [hl]
    go_enter Tryz.func50, Tryz.ntmps50
    go_wp2
    go_ret
    exact ⟨rfl, rfl⟩

theorem sbb_out {t : ByteArray} {i : Nat} (h : t.size ≤ i) : sbb t i = 0 := by
  have h' : t.data.size ≤ i := h
  unfold sbb
  rw [Array.getElem?_eq_none h']
  rfl
set_option maxRecDepth 20000 in
theorem rsign_any (i : Nat) (b : Nat) (s : ByteArray) (p d : Nat) (f : Bool) (e : Int) (va sv : Value) (w : World) (h : Wk w b s p d f e va sv) :
    Calls Tryz.prog 47 #[.pointer (some ⟨b, 0, none⟩), .int .i64 (i : Int)] w fun e' w' => e' = .returned (.int .u8 (sbb s i)) ∧ w' = w := by
  have c0 := h.c0
  have hlen := h.len
  clear h
  by_cases hi : i < s.size
  · rw [sbb_eq hi]
    have hi' : (i : Int) < (s.size : Int) := by omega
    go_enter Tryz.func47, Tryz.ntmps47
    go_wp2
    go_ret
    exact ⟨rfl, rfl⟩
  · rw [sbb_out (by omega)]
    have hi' : ¬ (i : Int) < (s.size : Int) := by omega
    go_enter Tryz.func47, Tryz.ntmps47
    go_wp2
    go_ret
    exact ⟨rfl, rfl⟩

/-- The place behind the gap. -/
def skp (s : ByteArray) (p : Nat) : Nat := p + spanN gapB (s.data.toList.drop p)
theorem skp_step {s : ByteArray} {p : Nat} (h : p < s.size) (hg : gapB (s[p].toNat : Int) = true) : skp s p = skp s (p + 1) := by
  have h' : p < s.data.toList.length := by simpa using h
  unfold skp
  rw [List.drop_eq_getElem_cons h', spanN_cons, data_get s p h, if_pos hg]
  omega
theorem skp_stop {s : ByteArray} {p : Nat} (h : p < s.size) (hg : gapB (s[p].toNat : Int) = false) : skp s p = p := by
  have h' : p < s.data.toList.length := by simpa using h
  unfold skp
  rw [List.drop_eq_getElem_cons h', spanN_cons, data_get s p h, if_neg (by rw [hg]; decide)]
  rfl
theorem skp_end {s : ByteArray} {p : Nat} (h : s.size ≤ p) : skp s p = p := by
  unfold skp
  rw [List.drop_eq_nil_of_le (by simpa using h)]
  rfl
theorem skp_le {s : ByteArray} {p : Nat} (h : p ≤ s.size) : skp s p ≤ s.size ∧ p ≤ skp s p := by
  unfold skp
  have := spanN_le gapB (s.data.toList.drop p)
  rw [List.length_drop] at this
  simp at this
  omega
def atOf (b : Nat) (w : World) : Nat := (intOf ((w.cell? ⟨b, 1, none⟩).getD (.int .i64 0))).toNat
theorem Wk.at {w : World} {b : Nat} {s : ByteArray} {p d : Nat} {f : Bool} {e : Int} {va sv : Value} (h : Wk w b s p d f e va sv) : atOf b w = p := by
  unfold atOf
  rw [h.c1]
  simp [intOf]

set_option maxRecDepth 20000 in
set_option maxHeartbeats 4000000 in
theorem rskip_any (b : Nat) (s : ByteArray) (p d : Nat) (f : Bool) (e : Int) (va sv : Value) (w : World) (h : Wk w b s p d f e va sv) :
    Calls Tryz.prog 26 #[.pointer (some ⟨b, 0, none⟩)] w fun e' w' => e' = .returned (.tuple #[]) ∧ Wk w' b s (skp s p) d f e va sv ∧ w.grownBy w' (some b) := by
  have H := hide h
  clear h
  go_enter Tryz.func26, Tryz.ntmps26
  go_wp2
  go_loopw [23] (fun _ wr => ∃ q : Nat, Hid (Wk wr b s q d f e va sv) ∧ Hid (skp s q = skp s p) ∧ Hid (w.grownBy wr (some b))) (fun _ wr => s.size - atOf b wr)
  case atStart => exact ⟨p, H, hide rfl, hide (World.grownBy.refl w _)⟩
  case round =>
    obtain ⟨q, HW, HQ, HG⟩ := hrel
    have c0 := (unhide HW).c0
    have c1 := (unhide HW).c1
    have hlen := (unhide HW).len
    have hle := (unhide HW).le
    by_cases hq : q < s.size
    · have hq' : (q : Int) < (s.size : Int) := by omega
      have HC := hide (fun (w : World) => gap_any (s[q].toNat : Int) w)
      rcases Bool.eq_false_or_eq_true (gapB (s[q].toNat : Int)) with hg | hg
      · have HN := hide (skp_step hq hg)
        rw [hg] at HC
        clear hg
        go_wp2_with fail
        go_quiet ((go_at_call 22; exact Calls.quiet_of_same (unhide HC _)))
        obtain ⟨wq, hwq⟩ : ∃ x, x = wr.drewN nq := ⟨_, rfl⟩
        have hgq : wr.grownBy wq none := by rw [hwq]; exact grown_drewN wr nq
        rw [← hwq]
        have HGQ := hide hgq
        clear hwq hgq
        have h1 := (unhide HW).kept (unhide HGQ)
        have d1 := h1.c1
        have d2 := h1.blk.frozen 1
        have hn : IntKind.i64.wrap ((q : Int) + 1) = ((q + 1 : Nat) : Int) := by rw [IntKind.wrap_i64]; omega
        have H1 := hide h1
        clear h1
        go_wp2
        go_roundw
        case rel => exact ⟨q + 1, hide ((unhide H1).to (q + 1) (by omega)), hide (by rw [← unhide HN]; exact unhide HQ), hide ((unhide HG).trans (grown_but (unhide HGQ) _) |>.trans (grown_setCell _ ⟨b, 1, none⟩ _))⟩
        case measure =>
          have ha := ((unhide H1).to (q + 1) (by omega)).at
          rw [show ((q + 1 : Nat) : Int) = (q : Int) + 1 by omega] at ha
          rw [ha, (unhide HW).at]
          omega
      · have HN := hide (skp_stop hq hg)
        rw [hg] at HC
        clear hg
        go_wp2_with fail
        go_quiet ((go_at_call 22; exact Calls.quiet_of_same (unhide HC _)))
        obtain ⟨wq, hwq⟩ : ∃ x, x = wr.drewN nq := ⟨_, rfl⟩
        have hgq : wr.grownBy wq none := by rw [hwq]; exact grown_drewN wr nq
        rw [← hwq]
        have HGQ := hide hgq
        clear hwq hgq
        go_wp2
        refine bodyPost_end (res0 rfl _ _) rfl ?_
        refine ⟨rfl, ?_, (unhide HG).trans (grown_but (unhide HGQ) _)⟩
        rw [← unhide HQ, unhide HN]
        exact (unhide HW).kept (unhide HGQ)
    · have hq' : ¬ (q : Int) < (s.size : Int) := by omega
      go_wp2_with fail
      go_quiet (fail)
      obtain ⟨wq, hwq⟩ : ∃ x, x = wr.drewN nq := ⟨_, rfl⟩
      have hgq : wr.grownBy wq none := by rw [hwq]; exact grown_drewN wr nq
      rw [← hwq]
      have HGQ := hide hgq
      clear hwq hgq
      go_wp2
      refine bodyPost_end (res0 rfl _ _) rfl ?_
      refine ⟨rfl, ?_, (unhide HG).trans (grown_but (unhide HGQ) _)⟩
      rw [← unhide HQ, skp_end (by omega)]
      exact (unhide HW).kept (unhide HGQ)

end Go.Proofs.YtlbpeknncakfeaaGreatDoor

/- The document's 'op': the operator between two sides that stands at a place, and its rank. -/
namespace Go.Proofs.YtlbpeknncakfeaaGreatDoor
open Go.RowKit Go.Maps

/-- The operator that two bytes begin with, and its rank; one: the first byte. -/
def opR (a b : Int) (one : ByteArray) : ByteArray × Int :=
  if a = 124 then (if b = 124 then (⟨#[124, 124]⟩, 1) else (⟨#[124]⟩, 3))
  else if a = 38 then (if b = 38 then (⟨#[38, 38]⟩, 2) else (⟨#[38]⟩, 5))
  else if a = 94 then (⟨#[94]⟩, 4)
  else if a = 61 then (if b = 61 then (⟨#[61, 61]⟩, 6) else (⟨#[]⟩, 0))
  else if a = 33 then (if b = 61 then (⟨#[33, 61]⟩, 6) else (⟨#[]⟩, 0))
  else if a = 60 then (if b = 60 then (⟨#[60, 60]⟩, 8) else if b = 61 then (⟨#[60, 61]⟩, 7) else (⟨#[60]⟩, 7))
  else if a = 62 then (if b = 62 then (⟨#[62, 62]⟩, 8) else if b = 61 then (⟨#[62, 61]⟩, 7) else (⟨#[62]⟩, 7))
  else if a = 43 ∨ a = 45 then (if b = 61 then (⟨#[]⟩, 0) else (one, 9))
  else if a = 42 ∨ a = 47 ∨ a = 37 then (if b = 61 then (⟨#[]⟩, 0) else (one, 10))
  else (⟨#[]⟩, 0)


set_option maxRecDepth 20000 in
set_option maxHeartbeats 8000000 in
theorem rop_any (b : Nat) (s : ByteArray) (p d : Nat) (f : Bool) (e : Int) (va sv : Value) (w : World) (h : Wk w b s p d f e va sv) :
    Calls Tryz.prog 119 #[.pointer (some ⟨b, 0, none⟩)] w fun e' w' => e' = .returned (.tuple #[.string (opR (sbb s (skp s p)) (sbb s (skp s p + 1)) (s.extract (skp s p) (skp s p + 1))).1, .int .i64 (opR (sbb s (skp s p)) (sbb s (skp s p + 1)) (s.extract (skp s p) (skp s p + 1))).2]) ∧ Wk w' b s (skp s p) d f e va sv ∧ w.grownBy w' (some b) := by
  have hsk := skp_le h.le
  have hlen := h.len
  have HS := hide (rskip_any b s p d f e va sv w h)
  clear h
  obtain ⟨q, hq⟩ : ∃ q, q = skp s p := ⟨_, rfl⟩
  rw [← hq] at hsk HS ⊢
  clear hq
  have HO : Hid (0 < sbb s q → q < s.size) := hide (fun h0 => by
    rcases Nat.lt_or_ge q s.size with h1 | h1
    · exact h1
    · rw [sbb_out h1] at h0; cases h0)
  have HA : Hid (∀ w, Wk w b s q d f e va sv → Calls Tryz.prog 47 #[.pointer (some ⟨b, 0, none⟩), .int .i64 (q : Int)] w fun e' w' => e' = .returned (.int .u8 (sbb s q)) ∧ w' = w) := hide (fun w h => rsign_any q b s q d f e va sv w h)
  have HC : Hid (∀ w, Wk w b s q d f e va sv → Calls Tryz.prog 47 #[.pointer (some ⟨b, 0, none⟩), .int .i64 ((q : Int) + 1)] w fun e' w' => e' = .returned (.int .u8 (sbb s (q + 1))) ∧ w' = w) := hide (fun w h => rsign_any (q + 1) b s q d f e va sv w h)
  obtain ⟨a, ha⟩ : ∃ a, a = sbb s q := ⟨_, rfl⟩
  obtain ⟨c, hc⟩ : ∃ c, c = sbb s (q + 1) := ⟨_, rfl⟩
  rw [← ha] at HO HA ⊢
  rw [← hc] at HC ⊢
  clear ha hc
  obtain ⟨hsk1, hsk2⟩ := hsk
  have hn : IntKind.i64.wrap ((q : Int) + 1) = (q : Int) + 1 := by rw [IntKind.wrap_i64]; omega
  go_enter Tryz.func119, Tryz.ntmps119
  go_wp2_with fail
  refine (unhide HS).mono ?_
  rintro e' w1 ⟨rfl, h1, g1⟩
  have k0 := h1.c0
  have k1 := h1.c1
  have H2 := hide h1
  have G2 := hide g1
  clear h1 g1 HS
  go_wp2_with fail
  refine (unhide HA _ (unhide H2)).mono ?_
  rintro e' w2 ⟨rfl, hw2⟩
  have hw3 := hw2.symm
  subst hw3
  clear hw2
  go_wp2_with fail
  refine (unhide HC _ (unhide H2)).mono ?_
  rintro e' w1 ⟨rfl, hw2⟩
  have hw3 := hw2.symm
  subst hw3
  clear hw2 HA HC
  by_cases a1 : a = 124
  · subst a1
    by_cases c1 : c = 124
    · subst c1; (go_wp2; go_ret2; exact ⟨by simp [opR, *], unhide H2, unhide G2⟩)
    · have c2 : (c == 124) = false := by simpa using c1
      go_wp2; go_ret2; exact ⟨by simp [opR, *], unhide H2, unhide G2⟩
  by_cases a2 : a = 38
  · subst a2
    by_cases c1 : c = 38
    · subst c1; (go_wp2; go_ret2; exact ⟨by simp [opR, *], unhide H2, unhide G2⟩)
    · have c2 : (c == 38) = false := by simpa using c1
      go_wp2; go_ret2; exact ⟨by simp [opR, *], unhide H2, unhide G2⟩
  by_cases a3 : a = 94
  · subst a3; (go_wp2; go_ret2; exact ⟨by simp [opR, *], unhide H2, unhide G2⟩)
  by_cases a4 : a = 61
  · subst a4
    by_cases c1 : c = 61
    · subst c1; (go_wp2; go_ret2; exact ⟨by simp [opR, *], unhide H2, unhide G2⟩)
    · have c2 : (c == 61) = false := by simpa using c1
      go_wp2; go_ret2; exact ⟨by simp [opR, *], unhide H2, unhide G2⟩
  by_cases a5 : a = 33
  · subst a5
    by_cases c1 : c = 61
    · subst c1; (go_wp2; go_ret2; exact ⟨by simp [opR, *], unhide H2, unhide G2⟩)
    · have c2 : (c == 61) = false := by simpa using c1
      go_wp2; go_ret2; exact ⟨by simp [opR, *], unhide H2, unhide G2⟩
  by_cases a6 : a = 60
  · subst a6
    by_cases c1 : c = 60
    · subst c1; (go_wp2; go_ret2; exact ⟨by simp [opR, *], unhide H2, unhide G2⟩)
    by_cases c3 : c = 61
    · subst c3; (go_wp2; go_ret2; exact ⟨by simp [opR, *], unhide H2, unhide G2⟩)
    · have c2 : (c == 60) = false := by simpa using c1
      have c4 : (c == 61) = false := by simpa using c3
      go_wp2; go_ret2; exact ⟨by simp [opR, *], unhide H2, unhide G2⟩
  by_cases a7 : a = 62
  · subst a7
    by_cases c1 : c = 62
    · subst c1; (go_wp2; go_ret2; exact ⟨by simp [opR, *], unhide H2, unhide G2⟩)
    by_cases c3 : c = 61
    · subst c3; (go_wp2; go_ret2; exact ⟨by simp [opR, *], unhide H2, unhide G2⟩)
    · have c2 : (c == 62) = false := by simpa using c1
      have c4 : (c == 61) = false := by simpa using c3
      go_wp2; go_ret2; exact ⟨by simp [opR, *], unhide H2, unhide G2⟩
  by_cases a8 : a = 43
  · subst a8
    have hlt := unhide HO (by decide)
    by_cases c1 : c = 61
    · subst c1; (go_wp2; go_ret2; exact ⟨by simp [opR, *], unhide H2, unhide G2⟩)
    · have c2 : (c == 61) = false := by simpa using c1
      go_wp2_with fail
      go_quiet (fail)
      go_wp2
      go_ret2
      refine ⟨?_, (unhide H2).kept (grown_drewN w1 nq), (unhide G2).trans (grown_but (grown_drewN w1 nq) _)⟩
      simp [opR, *]
  by_cases a9 : a = 45
  · subst a9
    have hlt := unhide HO (by decide)
    by_cases c1 : c = 61
    · subst c1; (go_wp2; go_ret2; exact ⟨by simp [opR, *], unhide H2, unhide G2⟩)
    · have c2 : (c == 61) = false := by simpa using c1
      go_wp2_with fail
      go_quiet (fail)
      go_wp2
      go_ret2
      refine ⟨?_, (unhide H2).kept (grown_drewN w1 nq), (unhide G2).trans (grown_but (grown_drewN w1 nq) _)⟩
      simp [opR, *]
  by_cases a10 : a = 42
  · subst a10
    have hlt := unhide HO (by decide)
    by_cases c1 : c = 61
    · subst c1; (go_wp2; go_ret2; exact ⟨by simp [opR, *], unhide H2, unhide G2⟩)
    · have c2 : (c == 61) = false := by simpa using c1
      go_wp2_with fail
      go_quiet (fail)
      go_wp2
      go_ret2
      refine ⟨?_, (unhide H2).kept (grown_drewN w1 nq), (unhide G2).trans (grown_but (grown_drewN w1 nq) _)⟩
      simp [opR, *]
  by_cases a11 : a = 47
  · subst a11
    have hlt := unhide HO (by decide)
    by_cases c1 : c = 61
    · subst c1; (go_wp2; go_ret2; exact ⟨by simp [opR, *], unhide H2, unhide G2⟩)
    · have c2 : (c == 61) = false := by simpa using c1
      go_wp2_with fail
      go_quiet (fail)
      go_wp2
      go_ret2
      refine ⟨?_, (unhide H2).kept (grown_drewN w1 nq), (unhide G2).trans (grown_but (grown_drewN w1 nq) _)⟩
      simp [opR, *]
  by_cases a12 : a = 37
  · subst a12
    have hlt := unhide HO (by decide)
    by_cases c1 : c = 61
    · subst c1; (go_wp2; go_ret2; exact ⟨by simp [opR, *], unhide H2, unhide G2⟩)
    · have c2 : (c == 61) = false := by simpa using c1
      go_wp2_with fail
      go_quiet (fail)
      go_wp2
      go_ret2
      refine ⟨?_, (unhide H2).kept (grown_drewN w1 nq), (unhide G2).trans (grown_but (grown_drewN w1 nq) _)⟩
      simp [opR, *]
  have e1 : (a == 124) = false := by simpa using a1
  have e2 : (a == 38) = false := by simpa using a2
  have e3 : (a == 94) = false := by simpa using a3
  have e4 : (a == 61) = false := by simpa using a4
  have e5 : (a == 33) = false := by simpa using a5
  have e6 : (a == 60) = false := by simpa using a6
  have e7 : (a == 62) = false := by simpa using a7
  have e8 : (a == 43) = false := by simpa using a8
  have e9 : (a == 45) = false := by simpa using a9
  have e10 : (a == 42) = false := by simpa using a10
  have e11 : (a == 47) = false := by simpa using a11
  have e12 : (a == 37) = false := by simpa using a12
  go_wp2; go_ret2; exact ⟨by simp [opR, *], unhide H2, unhide G2⟩

end Go.Proofs.YtlbpeknncakfeaaGreatDoor

/- The operator that the document reads is the program's, but for '+=', '-=', '*=', '/=', '%=', where it reads none. -/
namespace Go.Proofs.YtlbpeknncakfeaaGreatDoor
open Go.RowKit Go.Maps

/-- An operator with '=' behind it, that sets. -/
def stuckB : List UInt8 → Bool
  | x :: y :: _ => (y == 61) && ((x == 43) || (x == 45) || (x == 42) || (x == 47) || (x == 37))
  | _ => false
/-- The operator between two sides at a list's front, as the document reads it. -/
def opD (l : List UInt8) : Option (Opr × Nat) := if stuckB l then none else opAt l
def byteA (l : List UInt8) (i : Nat) : Int := ((l[i]?.getD 0).toNat : Int)
def opDR (l : List UInt8) : ByteArray × Int := match opD l with
  | some (o, n) => (BA (l.take n), (o.rank : Int))
  | none => (⟨#[]⟩, 0)
def opChk (l : List UInt8) : Bool := (opR (byteA l 0) (byteA l 1) (BA (l.take 1))).1.data.toList == (opDR l).1.data.toList && (opR (byteA l 0) (byteA l 1) (BA (l.take 1))).2 == (opDR l).2
theorem opChk0 : opChk [] = true := by kernel_rfl
theorem opChk1 : ∀ x : Fin 256, opChk [UInt8.ofNat x.val] = true := by decide +kernel
theorem opChk2 : ∀ x : Fin 256, (opChk [UInt8.ofNat x.val, 124] && opChk [UInt8.ofNat x.val, 38] && opChk [UInt8.ofNat x.val, 61] && opChk [UInt8.ofNat x.val, 60] && opChk [UInt8.ofNat x.val, 62]) = true := by decide +kernel
/-- No operator has another byte at its end. -/
theorem findOp_other (x y : UInt8) (h1 : y ≠ 124) (h2 : y ≠ 38) (h3 : y ≠ 61) (h4 : y ≠ 60) (h5 : y ≠ 62) : findOp [x, y] = none := by
  have g1 : ¬ 124 = y := fun e => h1 e.symm
  have g2 : ¬ 38 = y := fun e => h2 e.symm
  have g3 : ¬ 61 = y := fun e => h3 e.symm
  have g4 : ¬ 60 = y := fun e => h4 e.symm
  have g5 : ¬ 62 = y := fun e => h5 e.symm
  simp [findOp, lookR, opsT, g1, g2, g3, g4, g5]
theorem opAt_two (x y : UInt8) (t : List UInt8) : opAt (x :: y :: t) = opAt [x, y] := by
  unfold opAt
  rw [show min 2 (x :: y :: t).length = 2 by simp only [List.length_cons]; omega, show min 2 [x, y].length = 2 from rfl]
  rfl
theorem opD_two (x y : UInt8) (t : List UInt8) : opD (x :: y :: t) = opD [x, y] := by
  unfold opD
  rw [opAt_two]
  rfl
theorem opD_le {l : List UInt8} {o : Opr} {n : Nat} (h : opD l = some (o, n)) : 0 < n ∧ n ≤ 2 ∧ n ≤ l.length ∧ opAt l = some (o, n) := by
  unfold opD at h
  split at h
  · cases h
  · have h1 := opUpTo_leq h
    exact ⟨h1.1, by omega, by omega, h⟩
where
  opUpTo_leq {l : List UInt8} {o : Opr} {n : Nat} : ∀ {m : Nat}, opUpTo l m = some (o, n) → 0 < n ∧ n ≤ m
    | 0, h => by cases h
    | m + 1, h => by
      rw [opUpTo_succ] at h
      cases hf : findOp (l.take (m + 1)) with
      | some o' => rw [hf] at h; cases h; exact ⟨by omega, by omega⟩
      | none => rw [hf] at h; have := opUpTo_leq h; exact ⟨this.1, by omega⟩
theorem opDR_two (x y : UInt8) (t : List UInt8) : opDR (x :: y :: t) = opDR [x, y] := by
  unfold opDR
  rw [opD_two]
  cases h : opD [x, y] with
  | none => rfl
  | some p =>
    obtain ⟨o, n⟩ := p
    have h1 := opD_le h
    obtain rfl | rfl : n = 1 ∨ n = 2 := by omega
    · rfl
    · rfl
theorem chk_eq {l : List UInt8} (h : opChk l = true) : opR (byteA l 0) (byteA l 1) (BA (l.take 1)) = opDR l := by
  unfold opChk at h
  rw [Bool.and_eq_true] at h
  have h1 := eq_of_beq h.1
  have h2 := eq_of_beq h.2
  refine Prod.ext ?_ h2
  exact ByteArray.ext (Array.toList_inj.1 h1)
theorem opD_other (x y : UInt8) (h1 : y ≠ 124) (h2 : y ≠ 38) (h3 : y ≠ 61) (h4 : y ≠ 60) (h5 : y ≠ 62) : opD [x, y] = opD [x] := by
  have hs : stuckB [x, y] = false := by
    show ((y == 61) && _) = false
    rw [show (y == 61) = false by simpa using h3]
    rfl
  unfold opD
  rw [hs, if_neg (by decide), show stuckB [x] = false from rfl, if_neg (by decide)]
  unfold opAt
  rw [show min 2 [x, y].length = 2 from rfl, show min 2 [x].length = 1 from rfl, opUpTo_succ, show [x, y].take (1 + 1) = [x, y] from rfl, findOp_other x y h1 h2 h3 h4 h5]
  rfl
theorem u8_ne {y : UInt8} {k : Nat} (h : y ≠ UInt8.ofNat k) : ¬ (y.toNat : Int) = (k : Int) := by
  intro e
  apply h
  have : y.toNat = k := by omega
  rw [← this]
  simp
theorem opR_other (a c : Int) (one : ByteArray) (h1 : ¬ c = 124) (h2 : ¬ c = 38) (h3 : ¬ c = 61) (h4 : ¬ c = 60) (h5 : ¬ c = 62) : opR a c one = opR a 0 one := by
  unfold opR
  rw [if_neg h1, if_neg h2, if_neg h3, if_neg h4, if_neg h5]
  simp [h3]
theorem opR_eq (l : List UInt8) : opR (byteA l 0) (byteA l 1) (BA (l.take 1)) = opDR l := by
  match l with
  | [] => exact chk_eq opChk0
  | [x] =>
    have h := opChk1 ⟨x.toNat, x.toNat_lt⟩
    exact chk_eq (by simpa using h)
  | x :: y :: t =>
    rw [opDR_two]
    show opR (byteA [x, y] 0) (byteA [x, y] 1) (BA ([x, y].take 1)) = _
    have h := opChk2 ⟨x.toNat, x.toNat_lt⟩
    simp only [Bool.and_eq_true, UInt8.ofNat_toNat] at h
    obtain ⟨⟨⟨⟨k1, k2⟩, k3⟩, k4⟩, k5⟩ := h
    by_cases h1 : y = 124
    · subst h1; exact chk_eq k1
    by_cases h2 : y = 38
    · subst h2; exact chk_eq k2
    by_cases h3 : y = 61
    · subst h3; exact chk_eq k3
    by_cases h4 : y = 60
    · subst h4; exact chk_eq k4
    by_cases h5 : y = 62
    · subst h5; exact chk_eq k5
    have hx := opChk1 ⟨x.toNat, x.toNat_lt⟩
    have hx' := chk_eq (l := [x]) (by simpa using hx)
    have e : opDR [x, y] = opDR [x] := by
      unfold opDR
      rw [opD_other x y h1 h2 h3 h4 h5]
      cases ho : opD [x] with
      | none => rfl
      | some p =>
        obtain ⟨o, n⟩ := p
        have h1 := opD_le ho
        have hn : n = 1 := by have := h1.2.2.1; simp at this; omega
        subst hn
        rfl
    rw [e, ← hx']
    exact opR_other (byteA [x] 0) (y.toNat : Int) _ (u8_ne (k := 124) h1) (u8_ne (k := 38) h2) (u8_ne (k := 61) h3) (u8_ne (k := 60) h4) (u8_ne (k := 62) h5)

end Go.Proofs.YtlbpeknncakfeaaGreatDoor

/- The document's own test for a setting sign, against the program's. -/
namespace Go.Proofs.YtlbpeknncakfeaaGreatDoor
open Go.RowKit Go.Maps

def opB (c : UInt8) : Bool := (c == 43) || (c == 45) || (c == 42) || (c == 47) || (c == 37)
/-- The setting sign at the front, as the document reads it: the operator within, what is behind. -/
def signD : List UInt8 → Option (List UInt8 × List UInt8)
  | [] => none
  | c :: r => if opB c then (match r with
      | [] => none
      | d :: r' => if d = 61 then some ([c], r') else none)
    else if c = 61 then (match r with
      | [] => some ([], [])
      | d :: r' => if d = 61 then none else some ([], d :: r'))
    else none
theorem signD_cons (c : UInt8) (r : List UInt8) : signD (c :: r) = if opB c then (match r with
      | [] => none
      | d :: r' => if d = 61 then some ([c], r') else none)
    else if c = 61 then (match r with
      | [] => some ([], [])
      | d :: r' => if d = 61 then none else some ([], d :: r'))
    else none := rfl
theorem opB_cases {c : UInt8} (h : opB c = true) : c = 43 ∨ c = 45 ∨ c = 42 ∨ c = 47 ∨ c = 37 := by
  unfold opB at h
  simp only [Bool.or_eq_true, beq_iff_eq] at h
  rcases h with (((h | h) | h) | h) | h <;> simp [h]
theorem opB_not {c : UInt8} (h : opB c = false) : ¬ 43 = c ∧ ¬ 45 = c ∧ ¬ 42 = c ∧ ¬ 47 = c ∧ ¬ 37 = c := by
  unfold opB at h
  simp only [Bool.or_eq_false_iff, beq_eq_false_iff_ne] at h
  obtain ⟨⟨⟨⟨h1, h2⟩, h3⟩, h4⟩, h5⟩ := h
  exact ⟨fun e => h1 e.symm, fun e => h2 e.symm, fun e => h3 e.symm, fun e => h4 e.symm, fun e => h5 e.symm⟩
theorem signIn_other {c : UInt8} {r : List UInt8} (h : opB c = false) (h61 : ¬ 61 = c) : signIn (c :: r) setOps = none := by
  obtain ⟨h1, h2, h3, h4, h5⟩ := opB_not h
  simp [signIn, setOps, signAt, Lib.hasPrefix, h1, h2, h3, h4, h5, h61]
theorem signIn_eq {r : List UInt8} : signIn (61 :: r) setOps = if Lib.hasPrefix r [61] then none else some ([], r) := by
  by_cases h : Lib.hasPrefix r [61] = true
  · rw [if_pos h]
    have h : [61].isPrefixOf r = true := h
    simp [signIn, setOps, signAt, Lib.hasPrefix, Lib.trimPrefix, h]
  · rw [if_neg h]
    have h : [61].isPrefixOf r = false := eq_false_of_ne_true h
    simp [signIn, setOps, signAt, Lib.hasPrefix, Lib.trimPrefix, h]
theorem sign_two (c : UInt8) (h : opB c = true) (r : List UInt8) : signIn (c :: r) setOps = match r with
    | [] => none
    | d :: r' => if d = 61 then (if Lib.hasPrefix r' [61] then none else some ([c], r')) else none := by
  match r with
  | [] => rcases opB_cases h with rfl | rfl | rfl | rfl | rfl <;> rfl
  | d :: r' =>
    by_cases hd : d = 61
    · subst hd
      show _ = if (61 : UInt8) = 61 then _ else _
      rw [if_pos rfl]
      by_cases hp : Lib.hasPrefix r' [61] = true
      · rw [if_pos hp]
        have hp : [61].isPrefixOf r' = true := hp
        rcases opB_cases h with rfl | rfl | rfl | rfl | rfl <;> simp [signIn, setOps, signAt, Lib.hasPrefix, Lib.trimPrefix, hp]
      · rw [if_neg hp]
        have hp : [61].isPrefixOf r' = false := eq_false_of_ne_true hp
        rcases opB_cases h with rfl | rfl | rfl | rfl | rfl <;> simp [signIn, setOps, signAt, Lib.hasPrefix, Lib.trimPrefix, hp]
    · have hd' : ¬ 61 = d := fun e => hd e.symm
      simp only [if_neg hd]
      rcases opB_cases h with rfl | rfl | rfl | rfl | rfl <;> simp [signIn, setOps, signAt, Lib.hasPrefix, hd']

/-- The two tests agree, but at '+==' and its like. -/
theorem sign_same (t : List UInt8) : signIn t setOps = signD t ∨ (signIn t setOps = none ∧ ∃ c r, signD t = some ([c], 61 :: r) ∧ stuckB t = true) := by
  match t with
  | [] => exact .inl rfl
  | c :: r =>
    rcases Bool.eq_false_or_eq_true (opB c) with h | h
    · rw [sign_two c h r]
      rw [signD_cons, if_pos h]
      match r with
      | [] => exact .inl rfl
      | d :: r' =>
        simp only []
        by_cases hd : d = 61
        · subst hd
          rw [if_pos rfl, if_pos rfl]
          by_cases hp : Lib.hasPrefix r' [61] = true
          · rw [if_pos hp]
            match r', hp with
            | e :: r2, hp =>
              have he : e = 61 := by simp [Lib.hasPrefix] at hp; exact hp.symm
              subst he
              refine .inr ⟨rfl, c, r2, rfl, ?_⟩
              show ((61 : UInt8) == 61 && opB c) = true
              rw [h]; rfl
          · rw [if_neg hp]
            exact .inl rfl
        · rw [if_neg hd, if_neg hd]
          exact .inl rfl
    · by_cases h61 : c = 61
      · subst h61
        have hD : signD (61 :: r) = match r with
            | [] => some ([], [])
            | d :: r' => if d = 61 then none else some ([], d :: r') := rfl
        rw [signIn_eq, hD]
        match r with
        | [] => exact .inl rfl
        | d :: r' =>
          left
          by_cases hd : d = 61
          · subst hd
            rfl
          · have hp : ¬ Lib.hasPrefix (d :: r') [61] = true := by
              have hd' : ¬ 61 = d := fun e => hd e.symm
              simp [Lib.hasPrefix, hd']
            rw [if_neg hp]
            show _ = if d = 61 then _ else _
            rw [if_neg hd]
      · rw [signIn_other h (fun e => h61 e.symm)]
        rw [signD_cons, h, if_neg (by decide), if_neg h61]
        exact .inl rfl

theorem signD_len {t op b : List UInt8} (h : signD t = some (op, b)) : b.length < t.length := by
  match t with
  | [] => cases h
  | c :: r =>
    rw [signD_cons] at h
    split at h
    · match r with
      | [] => cases h
      | d :: r' =>
        simp only [] at h
        split at h
        · cases h; simp only [List.length_cons]; omega
        · cases h
    · split at h
      · match r with
        | [] => cases h; simp
        | d :: r' =>
          simp only [] at h
          split at h
          · cases h
          · cases h; simp
      · cases h
/-- The name that is set at the front, as the document finds it: the operator within the sign, what is behind. -/
def setD (m : List UInt8) : Option (List UInt8 × List UInt8) := if (nameOf m).isEmpty then none else signD (sk (m.drop (frontN m)))
theorem set_same (m : List UInt8) : setAt m = setD m ∨ (setAt m = none ∧ (nameOf m).isEmpty = false ∧ ∃ c r, setD m = some ([c], 61 :: r) ∧ stuckB (sk (m.drop (frontN m))) = true) := by
  unfold setAt setD
  rcases Bool.eq_false_or_eq_true (nameOf m).isEmpty with h | h
  · rw [h, if_pos rfl]
    exact .inl rfl
  · rw [h, if_neg (by decide), if_neg (by decide)]
    rcases sign_same (sk (m.drop (frontN m))) with h1 | ⟨h1, h2⟩
    · exact .inl h1
    · exact .inr ⟨h1, rfl, h2⟩

end Go.Proofs.YtlbpeknncakfeaaGreatDoor

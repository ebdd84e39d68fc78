/-
  What is set, plainly; asking and the operator's own behind a setting sign.
  The setting sign, as the document tests it, by its first byte.
  An expression: the document's 'any'.
-/
import Derived.Test.YtlbpeknncakfeaaGreatDoorEvOper
import Derived.Test.YtlbpeknncakfeaaGreatDoorEvSides
import Derived.Test.YtlbpeknncakfeaaGreatDoorSet

/- What is set, plainly; asking and the operator's own behind a setting sign. -/
namespace Go.Proofs.YtlbpeknncakfeaaGreatDoor
open Go.RowKit Go.Maps

theorem opB_find {c : UInt8} (h : opB c = true) : ∃ o, findOp [c] = some o ∧ 3 ≤ o.rank := by
  rcases opB_cases h with rfl | rfl | rfl | rfl | rfl
  · exact ⟨⟨9, 76, none, false⟩, by unfold findOp; decide, by decide⟩
  · exact ⟨⟨9, 77, none, false⟩, by unfold findOp; decide, by decide⟩
  · exact ⟨⟨10, 78, none, false⟩, by unfold findOp; decide, by decide⟩
  · exact ⟨⟨10, 79, none, true⟩, by unfold findOp; decide, by decide⟩
  · exact ⟨⟨10, 80, none, true⟩, by unfold findOp; decide, by decide⟩
theorem opB_tests {c : UInt8} (h : opB c = true) : ((c.toNat : Int) == 43) = true ∨ (((c.toNat : Int) == 43) = false ∧ ((c.toNat : Int) == 45) = true) ∨ (((c.toNat : Int) == 43) = false ∧ ((c.toNat : Int) == 45) = false ∧ ((c.toNat : Int) == 42) = true) ∨
    (((c.toNat : Int) == 43) = false ∧ ((c.toNat : Int) == 45) = false ∧ ((c.toNat : Int) == 42) = false ∧ ((c.toNat : Int) == 47) = true) ∨ (((c.toNat : Int) == 43) = false ∧ ((c.toNat : Int) == 45) = false ∧ ((c.toNat : Int) == 42) = false ∧ ((c.toNat : Int) == 47) = false ∧ ((c.toNat : Int) == 37) = true) := by
  rcases opB_cases h with rfl | rfl | rfl | rfl | rfl
  · exact .inl rfl
  · exact .inr (.inl ⟨rfl, rfl⟩)
  · exact .inr (.inr (.inl ⟨rfl, rfl, rfl⟩))
  · exact .inr (.inr (.inr (.inl ⟨rfl, rfl, rfl, rfl⟩)))
  · exact .inr (.inr (.inr (.inr ⟨rfl, rfl, rfl, rfl, rfl⟩)))
theorem u8_beq {c : UInt8} {k : Nat} (h : ¬ UInt8.ofNat k = c) (hk : k < 256) : ((c.toNat : Int) == (k : Int)) = false := by
  rw [beq_eq_false_iff_ne]
  intro e
  apply h
  apply UInt8.toNat_inj.1
  rw [show (UInt8.ofNat k).toNat = k by simp; omega]
  omega
theorem opB_none {c : UInt8} (h : opB c = false) : ((c.toNat : Int) == 43) = false ∧ ((c.toNat : Int) == 45) = false ∧ ((c.toNat : Int) == 42) = false ∧ ((c.toNat : Int) == 47) = false ∧ ((c.toNat : Int) == 37) = false := by
  obtain ⟨h1, h2, h3, h4, h5⟩ := opB_not h
  exact ⟨u8_beq (k := 43) h1 (by decide), u8_beq (k := 45) h2 (by decide), u8_beq (k := 42) h3 (by decide), u8_beq (k := 47) h4 (by decide), u8_beq (k := 37) h5 (by decide)⟩

attribute [local irreducible] findOp findSign
theorem mkSet_none (nm : List UInt8) (x : E) : mkSet nm [] x = .set nm x := by unfold mkSet; rw [findOp_nil]
theorem mkSet_some {nm op : List UInt8} {o : Opr} (h : findOp op = some o) (x : E) : mkSet nm op x = .set nm (.chg nm o x) := by unfold mkSet; rw [h]

theorem applyS_ne {o : Opr} {a b c : Int} (h : applyS o a b = .error c) : c ≠ 0 := by
  unfold applyS at h
  split at h
  · cases h; decide
  · cases h
theorem evalR_len {vars : Pairs} : ∀ {x : E} {t t' : Pairs} {n : Int}, evalR vars x t = .ok (n, t') → t'.length ≤ t.length + cost x
  | .num _, t, t', n, h => by cases h; exact Nat.le_add_right _ _
  | .name s, t, t', n, h => by
    rw [evalR] at h
    split at h
    · cases h
    · cases h; exact Nat.le_add_right _ _
  | .sign k x, t, t', n, h => by
    rw [evalR] at h
    split at h
    · cases h
    · next a t1 hx =>
      cases h
      have h1 := evalR_len hx
      simp only [cost]
      exact h1
  | .op o x y, t, t', n, h => by
    rw [evalR] at h
    simp only [cost]
    split at h
    · cases h
    · next a t1 hx =>
      have h1 := evalR_len hx
      split at h
      · split at h
        · cases h
        · cases h; omega
      · split at h
        · cases h
        · next b t2 hy =>
          have h2 := evalR_len hy
          split at h
          · cases h
          · cases h; omega
  | .choice c y z, t, t', n, h => by
    rw [evalR] at h
    simp only [cost]
    split at h
    · cases h
    · next a t1 hx =>
      have h1 := evalR_len hx
      split at h
      · have h2 := evalR_len h; omega
      · have h2 := evalR_len h; omega
  | .set s x, t, t', n, h => by
    rw [evalR] at h
    simp only [cost]
    split at h
    · cases h
    · next a t1 hx =>
      have h1 := evalR_len hx
      cases h
      simp
      omega
  | .chg s o x, t, t', n, h => by
    rw [evalR] at h
    simp only [cost]
    split at h
    · cases h
    · next a t1 hx =>
      have h1 := evalR_len hx
      split at h
      · cases h
      · split at h
        · cases h
        · cases h; omega
theorem Ev.len {vars : Pairs} {x : E} {d : Nat} {e : Int} {sets : Pairs} {n e3 : Int} {t3 : Pairs} (h : Ev vars x (liveB d false e) e sets n e3 t3) (hl : liveB d false e3 = true) : t3.length ≤ sets.length + cost x := by
  rcases Bool.eq_false_or_eq_true (liveB d false e) with h0 | h0
  · rw [h0] at h
    rcases hv : evalR vars x sets with c | ⟨m, t⟩
    · obtain ⟨rfl, hc⟩ := h.err hv
      rw [live_err hc] at hl
      cases hl
    · obtain ⟨rfl, rfl, rfl⟩ := h.ok hv
      exact evalR_len hv
  · rw [h0] at h
    obtain ⟨rfl, rfl⟩ := h.dead
    rw [h0] at hl
    cases hl
theorem Ev.set {vars : Pairs} {y : E} {d : Nat} {e : Int} {sets : Pairs} {v e3 : Int} {t3 : Pairs} (h : Ev vars y (liveB d false e) e sets v e3 t3) (nm : List UInt8) :
    (liveB d false e3 = true → Ev vars (.set nm y) (liveB d false e) e sets v e3 (t3 ++ [(nm, textL v)])) ∧ (liveB d false e3 = false → Ev vars (.set nm y) (liveB d false e) e sets v e3 t3) := by
  rcases Bool.eq_false_or_eq_true (liveB d false e) with h0 | h0
  · rw [h0] at h ⊢
    rcases hv : evalR vars y sets with c | ⟨m, t⟩
    · obtain ⟨rfl, hc⟩ := h.err hv
      refine ⟨fun hl => ?_, fun _ => Ev.of_err (by rw [evalR, hv]) hc⟩
      rw [live_err hc] at hl
      cases hl
    · obtain ⟨rfl, rfl, rfl⟩ := h.ok hv
      obtain ⟨rfl, _, rfl⟩ := live_same h0
      refine ⟨fun _ => Ev.of_ok (by rw [evalR, hv]), fun hl => ?_⟩
      rw [h0] at hl
      cases hl
  · rw [h0] at h ⊢
    obtain ⟨rfl, rfl⟩ := h.dead
    refine ⟨fun hl => ?_, fun _ => Ev.of_dead _ _ _ _ _⟩
    rw [h0] at hl
    cases hl
theorem Ev.chg {vars : Pairs} {x : E} {d : Nat} {e : Int} {sets : Pairs} {v e3 : Int} {t3 : Pairs} (h : Ev vars x (liveB d false e) e sets v e3 t3) (nm : List UInt8) (o : Opr) :
    (liveB d false e3 = true → e3 = 0 ∧ match rvalS (BA (findV (t3.reverse ++ vars) nm)) with
      | none => ∀ n, Ev vars (.chg nm o x) (liveB d false e) e sets n 10 t3
      | some a => I64 a ∧ match applyS o a v with
        | .ok m => Ev vars (.chg nm o x) (liveB d false e) e sets m 0 t3
        | .error c => ∀ n, Ev vars (.chg nm o x) (liveB d false e) e sets n c t3) ∧ (liveB d false e3 = false → ∀ n, Ev vars (.chg nm o x) (liveB d false e) e sets n e3 t3) := by
  rcases Bool.eq_false_or_eq_true (liveB d false e) with h0 | h0
  · rw [h0] at h ⊢
    rcases hv : evalR vars x sets with c | ⟨m, t⟩
    · obtain ⟨rfl, hc⟩ := h.err hv
      refine ⟨fun hl => ?_, fun _ n => Ev.of_err (by rw [evalR, hv]) hc⟩
      rw [live_err hc] at hl
      cases hl
    · obtain ⟨rfl, rfl, rfl⟩ := h.ok hv
      obtain ⟨rfl, _, rfl⟩ := live_same h0
      refine ⟨fun _ => ⟨rfl, ?_⟩, fun hl => ?_⟩
      · rw [valS_eq]
        rcases hw : valS (BA (findV (t3.reverse ++ vars) nm)) with _ | a
        · intro n
          refine Ev.of_err ?_ (by decide)
          rw [evalR, hv]
          simp only [askR, hw]
        · refine ⟨valS_i64 hw, ?_⟩
          rcases hap : applyS o a v with c | m
          · intro n
            refine Ev.of_err ?_ (applyS_ne hap)
            rw [evalR, hv]
            simp only [askR, hw, hap]
          · refine Ev.of_ok ?_
            rw [evalR, hv]
            simp only [askR, hw, hap]
      · rw [h0] at hl
        cases hl
  · rw [h0] at h ⊢
    obtain ⟨rfl, rfl⟩ := h.dead
    refine ⟨fun hl => ?_, fun _ n => Ev.of_dead _ _ _ _ _⟩
    rw [h0] at hl
    cases hl

/-- What is known ahead of the setting: the number v. -/
structure SetP (w : World) (n₀ b : Nat) (s : ByteArray) (p d : Nat) (e : Int) (va : Value) (vars sets : Pairs) (nm : List UInt8) (v : Int) (p3 : Nat) (f : Bool) (e3 : Int) (t3 : Pairs) (sv3 : Value) (w3 : World) : Prop where
  bel : Below b w w3
  num : I64 v
  le : p ≤ p3
  ws : Ws w3 n₀ b s p3 d f e3 va vars t3 sv3
  room : liveB d f e3 = true → t3.length + 1 ≤ p3
  is : if f = true then DE (s.data.toList.drop p) = none else ∃ y rest, DE (s.data.toList.drop p) = some (.set nm y, rest) ∧ s.data.toList.drop p3 = rest ∧ Ev vars y (liveB d false e) e sets v e3 t3

theorem ask_U (nm : List UInt8) {w : World} {n₀ b : Nat} {s : ByteArray} {p d : Nat} {f : Bool} {e : Int} {va : Value} {vars sets : Pairs} {sv : Value} (h : Ws w n₀ b s p d f e va vars sets sv) :
    Calls Tryz.prog 48 #[.pointer (some ⟨b, 0, none⟩), .string (BA nm)] w fun e' w' => ∃ a e1, e' = .returned (.int .i64 a) ∧ Ws w' n₀ b s p d f e1 va vars sets sv ∧ Below b w w' ∧
      (liveB d f e = true → match rvalS (BA (findV (sets.reverse ++ vars) nm)) with
        | some n => a = n ∧ e1 = 0
        | none => e1 = 10) ∧ (liveB d f e = false → e1 = e) := by
  rcases Bool.eq_false_or_eq_true (liveB d f e) with hl | hl
  · refine (rask_any nm sets vars w.heap.size b s p d f e va sv w h.wk hl (h.vrow.mono (by have := h.le; have := h.wk.blk.lt; omega)) h.srow (h.find nm)).mono ?_
    rintro en w6 ⟨g6, h6⟩
    rcases hv : rvalS (BA (findV (sets.reverse ++ vars) nm)) with _ | n
    · rw [hv] at h6
      obtain ⟨rfl, k6⟩ := h6
      exact ⟨0, 10, rfl, h.next g6 k6 (Nat.le_refl _) h.dle, below_some g6 (Nat.le_of_lt h.wk.blk.lt), fun _ => rfl, fun h0 => by rw [hl] at h0; cases h0⟩
    · rw [hv] at h6
      obtain ⟨rfl, k6⟩ := h6
      exact ⟨n, 0, rfl, h.next g6 k6 (Nat.le_refl _) h.dle, below_some g6 (Nat.le_of_lt h.wk.blk.lt), fun _ => ⟨rfl, rfl⟩, fun h0 => by rw [hl] at h0; cases h0⟩
  · refine (rask_dead (BA nm) b s p d f e va sv w h.wk hl).mono ?_
    rintro en w6 ⟨rfl, rfl⟩
    exact ⟨0, e, rfl, h, Below.refl _ _, fun h0 => (by rw [hl] at h0; cases h0), fun _ => rfl⟩

theorem live_bad (d : Nat) (e : Int) : liveB d true e = false := by unfold liveB; simp
theorem of_U {w w4 : World} {n₀ b : Nat} {s : ByteArray} {p d p3 : Nat} {e e3 e4 : Int} {va : Value} {vars sets t3 : Pairs} {sv3 : Value} {f : Bool} {nm op : List UInt8} {o : Opr} {a v : Int} (ho : findOp op = some o) (h3 : 3 ≤ o.rank) (hB : Below b w w4) (hle : p ≤ p3) (h4 : Ws w4 n₀ b s p3 d f e4 va vars t3 sv3)
    (hroom : liveB d f e3 = true → t3.length + 1 ≤ p3) (ha : liveB d f e3 = true → match rvalS (BA (findV (t3.reverse ++ vars) nm)) with
        | some n => a = n ∧ e4 = 0
        | none => e4 = 10) (ha' : liveB d f e3 = false → e4 = e3)
    (his : if f = true then DE (s.data.toList.drop p) = none else ∃ x rest, DE (s.data.toList.drop p) = some (.set nm (.chg nm o x), rest) ∧ s.data.toList.drop p3 = rest ∧ Ev vars x (liveB d false e) e sets v e3 t3) :
    Calls Tryz.prog 49 #[.pointer (some ⟨b, 0, none⟩), .string (BA op), .int .i64 a, .int .i64 v] w4 fun e' w5 => ∃ m e5, e' = .returned (.int .i64 m) ∧ SetP w n₀ b s p d e va vars sets nm m p3 f e5 t3 sv3 w5 := by
  cases f
  · obtain ⟨x, rest, hde, hrest, hx⟩ := his
    have hc := hx.chg nm o
    rcases Bool.eq_false_or_eq_true (liveB d false e3) with hl | hl
    · have hc1 := hc.1 hl
      have ha1 := ha hl
      rcases hr : rvalS (BA (findV (t3.reverse ++ vars) nm)) with _ | n
      · rw [hr] at ha1 hc1
        have he4 : e4 = 10 := ha1
        subst he4
        refine (rof_dead (BA op) a v b s p3 d false 10 va sv3 w4 h4.wk (live_err (by decide))).mono ?_
        rintro en w6 ⟨rfl, rfl⟩
        exact ⟨0, 10, rfl, hB, ⟨by decide, by decide⟩, hle, h4, fun h0 => (by rw [live_err (by decide)] at h0; cases h0), _, rest, hde, hrest, hc1.2 0⟩
      · rw [hr] at ha1 hc1
        obtain ⟨rfl, rfl⟩ := ha1
        have hl0 : liveB d false 0 = true := by rw [← hc1.1]; exact hl
        refine (rof_any ho h3 a v b s p3 d false 0 va sv3 w4 h4.wk hl0).mono ?_
        intro en w6 h6
        have hc2 := hc1.2.2
        rcases hap : applyS o a v with c | m
        · rw [hap] at h6 hc2
          obtain ⟨rfl, rfl, k6, g6⟩ := h6
          exact ⟨0, 13, rfl, hB.trans (below_some g6 (Nat.le_of_lt h4.wk.blk.lt)), ⟨by decide, by decide⟩, hle, h4.next g6 k6 (Nat.le_refl _) h4.dle, fun h0 => (by rw [live_err (by decide)] at h0; cases h0), _, rest, hde, hrest, hc2 0⟩
        · rw [hap] at h6 hc2
          obtain ⟨rfl, rfl⟩ := h6
          have him : I64 m := by
            unfold applyS at hap
            split at hap
            · cases hap
            · cases hap; exact i64_do hc1.2.1 _ _
          exact ⟨m, 0, rfl, hB, him, hle, h4, fun _ => hroom hl, _, rest, hde, hrest, hc2⟩
    · have he4 := ha' hl
      subst he4
      refine (rof_dead (BA op) a v b s p3 d false e4 va sv3 w4 h4.wk hl).mono ?_
      rintro en w6 ⟨rfl, rfl⟩
      exact ⟨0, e4, rfl, hB, ⟨by decide, by decide⟩, hle, h4, fun h0 => (by rw [hl] at h0; cases h0), _, rest, hde, hrest, hc.2 hl 0⟩
  · refine (rof_dead (BA op) a v b s p3 d true e4 va sv3 w4 h4.wk (live_bad d e4)).mono ?_
    rintro en w6 ⟨rfl, rfl⟩
    exact ⟨0, e4, rfl, hB, ⟨by decide, by decide⟩, hle, h4, fun h0 => (by rw [live_bad] at h0; cases h0), his⟩

/-- Behind the append and the store. -/
theorem set_finD {w2 w3 : World} {n₀ b : Nat} {s : ByteArray} {p d : Nat} {f : Bool} {e : Int} {va : Value} {vars sets : Pairs} {sv nv : Value} {nm : List UInt8} {v : Int} {o : Obj} (h : Ws w2 n₀ b s p d f e va vars sets sv) (hv : I64 v) (hroom : sets.length + 1 ≤ p)
    (hown : w3.ownsRow (b + 1) 68 2 nv (sets.length + 1) (flatP sets ++ [.string (BA nm), .string (BA (textL v))])) (hg : (w2.alloc o).grownBy w3 sv.ownBlock) :
    w3.cell? ⟨b, 6, none⟩ = some sv ∧ w3.frozen? ⟨b, 6, none⟩ = false ∧ Below b w2 (w3.setCell ⟨b, 6, none⟩ nv) ∧ Ws (w3.setCell ⟨b, 6, none⟩ nv) n₀ b s p d f e va vars (sets ++ [(nm, textL v)]) nv := by
  have hb2 := h.wk.blk
  have hlt := hb2.lt
  have hne : ∀ k, sv.ownBlock = some k → b + 1 ≤ k := fun k hk => (ownsRow_lt h.row hk).1
  have hk : some b ≠ sv.ownBlock := fun e => by have := hne b e.symm; omega
  have hb3 := (hb2.alloc o).kept hg hk
  have b3 : Below b w2 w3 := ⟨hg.os, hg.tape, hg.output, Nat.le_trans (by simp) hg.size, fun i hi => by
    rw [hg.block i (by simp; omega) (fun e => by have := hne i e.symm; omega)]
    exact ((Below.refl _ w2).alloc (Nat.le_refl _) o).block i (by omega)⟩
  have gs := grown_setCell w3 ⟨b, 6, none⟩ nv
  have bs : Below b w3 (w3.setCell ⟨b, 6, none⟩ nv) := below_some gs (Nat.le_of_lt hb3.lt)
  have hkr : nv.ownBlock ≠ some b := fun e => by have := (ownsRow_lt hown e).1; omega
  refine ⟨hb3.cell 6 rfl, hb3.frozen 6, b3.trans bs, ⟨hb3.set 6 nv, h.wk.le, h.wk.len⟩, h.vrow.below (b3.trans bs) h.le, ?_, h.le, by simpa using hroom, h.dle, ?_, h.vvals⟩
  · rw [flatP_snoc, List.length_append]
    exact hown.kept gs (.inr hkr)
  · intro q hq
    rcases List.mem_append.1 hq with hq | hq
    · exact h.vals q hq
    · simp at hq
      subst hq
      exact text_len hv
theorem Ws.below {w w' : World} {n₀ b : Nat} {s : ByteArray} {p d : Nat} {f : Bool} {e : Int} {va : Value} {vars sets : Pairs} {sv : Value} (h : Ws w n₀ b s p d f e va vars sets sv) (hb : Below w.heap.size w w') : Ws w' n₀ b s p d f e va vars sets sv :=
  h.next (grown_but (grown_of_below hb) _) (h.wk.kept (grown_of_below hb)) (Nat.le_refl _) h.dle

end Go.Proofs.YtlbpeknncakfeaaGreatDoor

/- The setting sign, as the document tests it, by its first byte. -/
namespace Go.Proofs.YtlbpeknncakfeaaGreatDoor
open Go.RowKit Go.Maps

theorem signD_op {c : UInt8} {r : List UInt8} (h : opB c = true) : signD (c :: r) = if byteA r 0 = 61 then some ([c], r.drop 1) else none := by
  match r with
  | [] =>
    show (if opB c = true then _ else _) = _
    rw [if_pos h]
    rfl
  | x :: r' =>
    show (if opB c = true then (if x = 61 then _ else _) else _) = _
    rw [if_pos h]
    by_cases hx : x = 61
    · subst hx; rfl
    · rw [if_neg hx, if_neg (fun e => hx (UInt8.toNat_inj.1 (show x.toNat = 61 by have e' : (x.toNat : Int) = 61 := e; omega)))]
theorem signD_no {c : UInt8} {r : List UInt8} (h : opB c = false) : signD (c :: r) = if c = 61 then (if byteA r 0 = 61 then none else some ([], r)) else none := by
  match r with
  | [] =>
    show (if opB c = true then _ else _) = _
    rw [if_neg (by rw [h]; decide)]
    rfl
  | x :: r' =>
    show (if opB c = true then _ else if c = 61 then (if x = 61 then _ else _) else _) = _
    rw [if_neg (by rw [h]; decide)]
    by_cases hc : c = 61
    · rw [if_pos hc, if_pos hc]
      by_cases hx : x = 61
      · subst hx; rfl
      · rw [if_neg hx, if_neg (fun e => hx (UInt8.toNat_inj.1 (show x.toNat = 61 by have e' : (x.toNat : Int) = 61 := e; omega)))]
    · rw [if_neg hc, if_neg hc]
theorem first61 {r : List UInt8} (h : byteA r 0 = 61) : r = 61 :: r.drop 1 := by
  match r with
  | [] => cases h
  | x :: r' =>
    have e' : (x.toNat : Int) = 61 := h
    rw [show x = 61 from UInt8.toNat_inj.1 (show x.toNat = 61 by omega)]
    rfl

end Go.Proofs.YtlbpeknncakfeaaGreatDoor

/- An expression: the document's 'any'. -/
namespace Go.Proofs.YtlbpeknncakfeaaGreatDoor
open Go.RowKit Go.Maps
attribute [local irreducible] findOp findSign

theorem gap_zero : gapB 0 = false := rfl
theorem sbb_pos {s : ByteArray} {i : Nat} (h : gapB (sbb s i) = true) : i < s.size := by
  rcases Nat.lt_or_ge i s.size with h1 | h1
  · exact h1
  · rw [sbb_out h1] at h
    cases h

set_option maxRecDepth 100000 in
set_option maxHeartbeats 80000000 in
theorem anyD_step {M : Nat} (hC : Meth 46 DC M) (hE : ∀ N, N < M → Meth 27 DE N) : Meth 27 DE M := by
  intro w n₀ b s p d e va vars sets sv h hN
  have hlen := h.wk.len
  have hple := h.wk.le
  have hdp := h.dle
  have hsk := skp_le hple
  have hdr := drop_skp s p
  have hde := DE_eq (s.data.toList.drop p)
  obtain ⟨p1, hp1⟩ : ∃ x, x = skp s p := ⟨_, rfl⟩
  have HSK := hide (rskip_any b s p d false e va sv w h.wk)
  rw [← hp1] at HSK hsk hdr
  rw [← hdr] at hde
  have hss : sk (s.data.toList.drop p1) = s.data.toList.drop p1 := by rw [hdr, sk_sk]
  obtain ⟨m, hm⟩ : ∃ x, x = s.data.toList.drop p1 := ⟨_, rfl⟩
  rw [← hm] at hde hss
  have HD1 := hide hm.symm
  have hml : m.length = s.size - p1 := by rw [hm, List.length_drop]; simp
  have hfr := frontN_le m
  obtain ⟨nn, hnn⟩ : ∃ x, x = frontN m := ⟨_, rfl⟩
  rw [← hnn] at hfr
  have HF : Hid (∀ w, Calls Tryz.prog 45 #[.string (s.extract p1 s.size)] w fun e w' => e = .returned (.int .i64 (nn : Int)) ∧ w' = w) := hide (fun w => by
    have := rfront_any (s.extract p1 s.size) w (by rw [extract_end, ← hm, BA_size]; omega)
    rw [extract_end, ← hm, BA_list, ← hnn] at this
    rw [extract_end, ← hm]
    exact this)
  have hN1 : s.size ≤ p1 + M := by omega
  have HC := hide hC
  have HE := hide hE
  have HN := hide hN
  have HW := hide h
  clear hC hE hN h hp1 hdr
  go_enter Tryz.func27, Tryz.ntmps27
  go_wp2_with fail
  refine (unhide HSK).mono ?_
  rintro en w1 ⟨rfl, k1, g1⟩
  have c0 := k1.c0
  have c1 := k1.c1
  have HW1 := hide ((unhide HW).next g1 k1 hsk.2 (by omega))
  have B1 := hide (below_some g1 (Nat.le_of_lt (unhide HW).wk.blk.lt))
  clear k1 g1 hm
  go_wp2_with fail
  go_quiet ((go_at_call 45; exact Calls.quiet_of_same (unhide HF _)))
  obtain ⟨wr, hwr⟩ : ∃ x, x = w1.drewN nq := ⟨_, rfl⟩
  have hgr : w1.grownBy wr none := by rw [hwr]; exact grown_drewN w1 nq
  rw [← hwr]
  have HR := hide ((unhide HW1).next (grown_but hgr _) ((unhide HW1).wk.kept hgr) (Nat.le_refl _) (unhide HW1).dle)
  have BR := hide ((unhide B1).trans (below_some (grown_but hgr (some b)) (Nat.le_of_lt (unhide HW1).wk.blk.lt)))
  clear hwr hgr c0 c1 HW1 B1 HF HSK
  have c0 := (unhide HR).wk.c0
  have c1 := (unhide HR).wk.c1
  by_cases hn0 : nn = 0
  · subst hn0
    have hsd : setD m = none := by
      unfold setD nameOf
      rw [← hnn]
      rfl
    rw [hsd] at hde
    have HDE := hide hde
    have HT := HR
    have BT := BR
    have z1 : True := trivial
    clear hde hsd hnn
    go_wp2_with fail
    refine (unhide HC _ n₀ b s p1 d e va vars sets sv (unhide HT) hN1).mono ?_
    rintro en w8 ⟨b8, n8, rfl, hn8, p8, e8, t8, sv8, hp8, hr8⟩
    have HE8 := hide (And.intro b8 (And.intro hn8 hr8))
    clear b8 hn8 hr8 c0 c1 z1
    go_wp2
    go_ret
    refine ⟨(unhide BT).trans (unhide HE8).1, n8, rfl, (unhide HE8).2.1, p8, e8, t8, sv8, by omega, ?_⟩
    rw [unhide HDE]
    have hr8 := (unhide HE8).2.2
    rw [unhide HD1] at hr8
    exact hr8
  · have hn0' : ((nn : Int) == 0) = false := by rw [beq_eq_false_iff_ne]; omega
    obtain ⟨k0, hk0⟩ : ∃ x, x = p1 + nn := ⟨_, rfl⟩
    have hwk : IntKind.i64.wrap ((p1 : Int) + (nn : Int)) = (k0 : Int) := by rw [IntKind.wrap_i64]; omega
    have hkl : k0 ≤ s.size ∧ p1 < k0 := by omega
    have hex : s.extract p1 k0 = BA (nameOf m) := by rw [hk0, extract_one, unhide HD1, hnn]; rfl
    have hne : (nameOf m).isEmpty = false := by
      unfold nameOf
      rw [← hnn]
      cases m with
      | nil => simp at hml hfr; omega
      | cons x t => cases nn with
        | zero => omega
        | succ k => rfl
    have hsd : setD m = signD (sk (m.drop nn)) := by
      unfold setD
      rw [hne, if_neg (by decide), ← hnn]
    have hdk : sk (m.drop nn) = s.data.toList.drop (skp s k0) := by rw [drop_skp, hk0, ← List.drop_drop, unhide HD1]
    rw [hdk] at hsd
    have HSD := hide hsd
    have hk2 := skp_le hkl.1
    obtain ⟨nm, hnm⟩ : ∃ x, x = nameOf m := ⟨_, rfl⟩
    rw [← hnm] at hex hde
    have HEX := hide hex
    have HDD := hide hde
    clear hex hne hsd hdk hde hnm hk0 hn0 hss hfr hml hnn
    go_wp2_with fail
    go_quiet (fail)
    obtain ⟨wt, hwt⟩ : ∃ x, x = wr.drewN nq := ⟨_, rfl⟩
    have hgt : wr.grownBy wt none := by rw [hwt]; exact grown_drewN wr nq
    rw [← hwt]
    have HT := hide ((unhide HR).next (grown_but hgt _) ((unhide HR).wk.kept hgt) (Nat.le_refl _) (unhide HR).dle)
    have BT := hide ((unhide BR).trans (below_some (grown_but hgt (some b)) (Nat.le_of_lt (unhide HR).wk.blk.lt)))
    clear hwt hgt c0 c1 HR BR
    have c0 := (unhide HT).wk.c0
    have c1 := (unhide HT).wk.c1
    have z1 := (unhide HT).wk.blk.frozen 1
    rw [unhide HEX]
    have HSG : Hid (∀ i : Nat, Calls Tryz.prog 47 #[.pointer (some ⟨b, 0, none⟩), .int .i64 (i : Int)] wt fun e' w' => e' = .returned (.int .u8 (sbb s i)) ∧ w' = wt) := hide (fun i => rsign_any i b s p1 d false e va sv wt (unhide HT).wk)
    go_wp2_with fail
    go_loop [5] (fun x => ∃ k : Nat, x = .int .i64 (k : Int) ∧ k0 ≤ k ∧ k ≤ s.size ∧ Hid (skp s k = skp s k0)) (fun x => s.size - (intOf x).toNat)
    case atStart => exact ⟨k0, rfl, by omega, by omega, hide rfl⟩
    case round =>
      obtain ⟨k, rfl, hka, hkb, HKK⟩ := hrel
      go_wp2_with fail
      refine (unhide HSG k).mono ?_
      rintro en w4 ⟨rfl, hw4⟩
      have hw5 := hw4.symm
      subst hw5
      clear hw4
      go_wp2_with fail
      refine (gap_any _ _).mono ?_
      rintro en w4 ⟨rfl, hw4⟩
      have hw5 := hw4.symm
      subst hw5
      clear hw4
      rcases Bool.eq_false_or_eq_true (gapB (sbb s k)) with hg | hg
      · have hks := sbb_pos hg
        have hst : skp s (k + 1) = skp s k0 := by
          rw [← unhide HKK]
          exact (skp_step hks (by rw [← sbb_eq hks]; exact hg)).symm
        rw [hg]
        have HST := hide hst
        clear hg hst
        go_wp2
        go_round
        case rel => exact ⟨k + 1, by go_num, by omega, by omega, HST⟩
        case measure => simp [intOf]; omega
      · have hkk : k = skp s k0 := by
          rw [← unhide HKK]
          rcases Nat.lt_or_ge k s.size with h1 | h1
          · exact (skp_stop h1 (by rw [← sbb_eq h1]; exact hg)).symm
          · exact (skp_end h1).symm
        rw [hg]
        have hsd := unhide HSD
        rw [← hkk] at hsd hk2
        have hby : ∀ i, sbb s (k + i) = byteA (s.data.toList.drop k) i := fun i => sbb_drop s k i
        obtain ⟨t, ht⟩ : ∃ x, x = s.data.toList.drop k := ⟨_, rfl⟩
        rw [← ht] at hsd hby
        have hbk : sbb s k = byteA t 0 := by simpa using hby 0
        obtain ⟨k3, hk3⟩ : ∃ x, x = k + 1 := ⟨_, rfl⟩
        have hwk3 : IntKind.i64.wrap ((k : Int) + 1) = (k3 : Int) := by rw [IntKind.wrap_i64]; omega
        have hbk3 : sbb s k3 = byteA t 1 := by rw [hk3]; exact hby 1
        have hsg := unhide HSG
        have HS0 := hide (hsg k)
        have HS1 := hide (hsg k3)
        rw [hbk] at HS0
        rw [hbk3] at HS1
        clear hg HKK hbk hbk3 hby HSD hsg HSG hka hkk
        have hde := unhide HDD
        clear HDD
        rcases t with _ | ⟨c, r⟩
        · rw [show setD m = none from hsd] at hde
          have HDE := hide hde
          clear hsd hde ht hk3
          go_wp2_with fail
          refine (unhide HS0).mono ?_
          rintro en w4 ⟨rfl, hw4⟩
          have hw5 := hw4.symm
          subst hw5
          clear hw4
          rw [show byteA [] 0 = 0 from rfl]
          go_wp2_with fail
          refine (unhide HS0).mono ?_
          rintro en w4 ⟨rfl, hw4⟩
          have hw5 := hw4.symm
          subst hw5
          clear hw4
          rw [show byteA [] 0 = 0 from rfl]
          go_wp2_with fail
          refine (unhide HC _ n₀ b s p1 d e va vars sets sv (unhide HT) hN1).mono ?_
          rintro en w8 ⟨b8, n8, rfl, hn8, p8, e8, t8, sv8, hp8, hr8⟩
          have HE8 := hide (And.intro b8 (And.intro hn8 hr8))
          clear b8 hn8 hr8 c0 c1 z1
          go_wp2
          go_ret
          refine ⟨(unhide BT).trans (unhide HE8).1, n8, rfl, (unhide HE8).2.1, p8, e8, t8, sv8, by omega, ?_⟩
          rw [unhide HDE]
          have hr8 := (unhide HE8).2.2
          rw [unhide HD1] at hr8
          exact hr8
        · obtain ⟨hklt, hdk3⟩ := drop_step ht.symm
          rw [← hk3] at hdk3
          rw [show byteA (c :: r) 0 = (c.toNat : Int) from rfl] at HS0
          rw [show byteA (c :: r) 1 = byteA r 0 from rfl] at HS1
          have hkd : k < k3 ∧ k3 ≤ s.size := by omega
          rcases Bool.eq_false_or_eq_true (opB c) with hop | hop
          · -- an operator's byte
            have hex3 : s.extract k k3 = BA [c] := by rw [hk3, extract_one, ← ht]; rfl
            have hem := nonempty_of (s := s.extract k k3) (by rw [hex3]; exact Nat.one_pos)
            have hsg := signD_op (r := r) hop
            rw [hsg] at hsd
            obtain ⟨o, hfo, hrk⟩ := opB_find hop
            have HEX3 := hide hex3
            have HFO := hide (And.intro hfo hrk)
            have htests := opB_tests hop
            obtain ⟨cI, hcI⟩ : ∃ x, x = (c.toNat : Int) := ⟨_, rfl⟩
            rw [← hcI] at HS0 htests
            clear hex3 hsg hfo hrk hcI hop ht
            by_cases hr61 : byteA r 0 = 61
            · -- a setting sign
              obtain ⟨r', hr'⟩ : ∃ r', r = 61 :: r' := ⟨_, first61 hr61⟩
              subst hr'
              rw [show byteA (61 :: r') 0 = 61 from rfl] at HS1
              have hsd' : setD m = some ([c], r') := by rw [hsd, if_pos hr61]; rfl
              rw [hsd'] at hde
              simp only [] at hde
              obtain ⟨hq1, hdq⟩ := drop_step hdk3
              obtain ⟨q, hqe⟩ : ∃ x, x = k3 + 1 := ⟨_, rfl⟩
              rw [← hqe] at hdq
              have hwq : IntKind.i64.wrap ((k3 : Int) + 1) = (q : Int) := by rw [IntKind.wrap_i64]; omega
              have hq2 : q ≤ s.size ∧ k3 < q := by omega
              have HE2 := hide (unhide HE (s.size - q) (by have := unhide HN; omega))
              have HDQ := hide hdq
              have HDE := hide hde
              clear hsd hsd' hde hdq hr61 hdk3 hqe hk3
              rcases htests with g1 | ⟨g1, g2⟩ | ⟨g1, g2, g3⟩ | ⟨g1, g2, g3, g4⟩ | ⟨g1, g2, g3, g4, g5⟩
              all_goals
                go_wp2_with fail
                refine (unhide HS0).mono ?_
                rintro en w4 ⟨rfl, hw4⟩
                have hw5 := hw4.symm
                subst hw5
                clear hw4
                go_wp2_with fail
                refine (unhide HS1).mono ?_
                rintro en w4 ⟨rfl, hw4⟩
                have hw5 := hw4.symm
                subst hw5
                clear hw4
                have HWA : Hid (Ws (wt.setCell ⟨b, 1, none⟩ (.int .i64 (q : Int))) n₀ b s q d false e va vars sets sv) := hide ((unhide HT).next (grown_setCell wt ⟨b, 1, none⟩ _) ((unhide HT).wk.to q hq2.1) (by omega) (by omega))
                have BA2 := hide ((unhide BT).trans (below_some (grown_setCell wt ⟨b, 1, none⟩ (.int .i64 (q : Int))) (Nat.le_of_lt (unhide HT).wk.blk.lt)))
                have hcnt := (unhide HT).cnt
                go_wp2_with fail
                refine (unhide HE2 _ n₀ b s q d e va vars sets sv (unhide HWA) (by omega)).mono ?_
                rintro en wS ⟨b8, v, rfl, hv8, p3, e3, t3, sv3, hp3, hr3⟩
                rw [unhide HDQ] at hr3
                obtain ⟨f3, HW3, HY⟩ : ∃ f3, Hid (Ws wS n₀ b s p3 d f3 e3 va vars t3 sv3) ∧ Hid ((if f3 = true then DE (s.data.toList.drop p) = none else ∃ x rest, DE (s.data.toList.drop p) = some (.set nm (.chg nm o x), rest) ∧ s.data.toList.drop p3 = rest ∧ Ev vars x (liveB d false e) e sets v e3 t3) ∧ (liveB d f3 e3 = true → t3.length + 1 ≤ p3)) := by
                  have hde := unhide HDE
                  rcases hq3 : DE r' with _ | ⟨x, rest⟩
                  · rw [hq3] at hr3 hde
                    exact ⟨true, hide hr3, hide ⟨hde, fun h0 => by rw [live_bad] at h0; cases h0⟩⟩
                  · rw [hq3] at hr3 hde
                    simp only [mkSet_some (unhide HFO).1] at hde
                    obtain ⟨hws, hrest, hev⟩ := hr3
                    refine ⟨false, hide hws, hide ⟨⟨x, rest, hde, hrest, hev⟩, fun h0 => ?_⟩⟩
                    have h1 := hev.len h0
                    have h2 := (d_len _).1 _ _ _ hq3
                    rw [← unhide HDQ, ← hrest, List.length_drop, List.length_drop] at h2
                    have h3 : s.data.toList.length = s.size := by simp
                    have h4 := hws.wk.le
                    omega
                have B8 := hide ((unhide BA2).trans b8)
                have HV8 := hide hv8
                clear hr3 b8 hv8 c0 c1 z1
                go_wp2_with fail
                refine (ask_U nm (unhide HW3)).mono ?_
                rintro en w6 ⟨a6, e6, rfl, h6, b6, ha6, ha6'⟩
                have H6 := hide h6
                have B6 := hide ((unhide B8).trans b6)
                have HA6 := hide (And.intro ha6 ha6')
                clear h6 b6 ha6 ha6'
                go_wp2_with fail
                rw [unhide HEX3]
                refine (of_U (unhide HFO).1 (unhide HFO).2 (unhide B6) (by omega) (unhide H6) (unhide HY).2 (unhide HA6).1 (unhide HA6).2 (unhide HY).1).mono ?_
                clear HW3 HV8 B8 H6 B6 HA6 HY
                rintro en wS ⟨v, e3, rfl, hp⟩
                have HP := hide hp
                clear hp
                go_wp2_with fail
                refine (rlive_any b s p3 d f3 e3 va sv3 wS (unhide HP).ws.wk).mono ?_
                rintro en w9 ⟨rfl, hw9⟩
                have hw10 := hw9.symm
                subst hw10
                clear hw9
                rcases Bool.eq_false_or_eq_true (liveB d f3 e3) with hl | hl
                · rw [hl]
                  have hroom := (unhide HP).room hl
                  have hvi := (unhide HP).num
                  have hps := (unhide HP).ws.wk.le
                  have hb5 := (unhide HP).ws.wk.blk.lt
                  obtain ⟨_, hf3, _⟩ := live_same hl
                  subst hf3
                  have HL := hide hl
                  clear hl
                  obtain ⟨i4, h4i, h4z, h4s, h4b⟩ := info_parts info68
                  obtain ⟨sa, sc, rfl⟩ := own_shape (unhide HP).ws.row
                  have hU := (unhide HP).ws.below (below_of_grown (grown_drew' (World.grownBy.refl wS none)))
                  have c6 : wS.cell? ⟨b, 6, none⟩ = some (.slice sa t3.length sc) := (unhide HP).ws.wk.c6
                  have HT : Hid (Calls Tryz.prog 51 #[.int .i64 v] wS.drew fun e w' => e = .returned (.string (BA (textL v))) ∧ Below wS.drew.heap.size wS.drew w') := hide (rtext_any v wS.drew hvi.1 hvi.2)
                  have HU := hide hU
                  clear hU
                  go_wp2_with fail
                  refine wp_region_held_drew (S := fun _ => True) (by kernel_rfl) trivial (fun hHeld => ?_)
                  refine wpAnyH_take (i := 0) (oi := { dst := some 107, op := Op.move (Operand.tmp 0), type := 64, pos := "ref.go:270", after := #[], guard := none }) (v := ?_) rfl (by kernel_rfl) (by kernel_rfl) (by kernel_rfl) (fun _ _ _ h => h) (Or.inl ⟨by rfl, ?_⟩) (by assumption) ?_
                  rotate_left
                  · intro w hSw; (try dsimp only at hSw); go_simp; (try with_reducible rfl)
                  simp only [Act.put, List.setIfInBounds_toArray, List.set_cons_zero, List.set_cons_succ]
                  refine wpAnyH_take (i := 1) (oi := { dst := some 108, op := Op.move (Operand.tmp 0), type := 64, pos := "ref.go:270", after := #[], guard := none }) (v := ?_) rfl (by kernel_rfl) (by kernel_rfl) (by kernel_rfl) (fun _ _ _ h => h) (Or.inl ⟨by rfl, ?_⟩) (by assumption) ?_
                  rotate_left
                  · intro w hSw; (try dsimp only at hSw); go_simp; (try with_reducible rfl)
                  simp only [Act.put, List.setIfInBounds_toArray, List.set_cons_zero, List.set_cons_succ]
                  refine wpAnyH_take (i := 2) (oi := { dst := some 109, op := Op.nilCheck (Operand.tmp 108), type := 0, pos := "ref.go:270", after := #[{ on := 1, ground := Ground.data }], guard := none }) (v := ?_) rfl (by kernel_rfl) (by kernel_rfl) (by kernel_rfl) (fun _ _ _ h => h) (Or.inl ⟨by rfl, ?_⟩) (by assumption) ?_
                  rotate_left
                  · intro w hSw; (try dsimp only at hSw); go_simp; (try with_reducible rfl)
                  simp only [Act.put, List.setIfInBounds_toArray, List.set_cons_zero, List.set_cons_succ]
                  refine wpAnyH_take (i := 3) (oi := { dst := some 110, op := Op.fieldAddr 66 (Operand.tmp 109) 6, type := 0, pos := "ref.go:270", after := #[{ on := 2, ground := Ground.data }], guard := none }) (v := ?_) rfl (by kernel_rfl) (by kernel_rfl) (by kernel_rfl) (fun _ _ _ h => h) (Or.inl ⟨by rfl, ?_⟩) (by assumption) ?_
                  rotate_left
                  · intro w hSw; (try dsimp only at hSw); go_simp; (try with_reducible rfl)
                  simp only [Act.put, List.setIfInBounds_toArray, List.set_cons_zero, List.set_cons_succ]
                  refine wpAnyH_take (i := 5) (oi := { dst := some 112, op := Op.move (Operand.tmp 4), type := 9, pos := "ref.go:270", after := #[], guard := none }) (v := ?_) rfl (by kernel_rfl) (by kernel_rfl) (by kernel_rfl) (fun _ _ _ h => h) (Or.inl ⟨by rfl, ?_⟩) (by assumption) ?_
                  rotate_left
                  · intro w hSw; (try dsimp only at hSw); go_simp; (try with_reducible rfl)
                  simp only [Act.put, List.setIfInBounds_toArray, List.set_cons_zero, List.set_cons_succ]
                  refine wpAnyH_take (i := 6) (oi := { dst := some 113, op := Op.move (Operand.tmp 7), type := 3, pos := "ref.go:270", after := #[], guard := none }) (v := ?_) rfl (by kernel_rfl) (by kernel_rfl) (by kernel_rfl) (fun _ _ _ h => h) (Or.inl ⟨by rfl, ?_⟩) (by assumption) ?_
                  rotate_left
                  · intro w hSw; (try dsimp only at hSw); go_simp; (try with_reducible rfl)
                  simp only [Act.put, List.setIfInBounds_toArray, List.set_cons_zero, List.set_cons_succ]
                  refine wpAnyH_ready (rs := [4, 7]) (by kernel_rfl) (by simp) ?_
                  refine AllReadyH.cons (o := { dst := some 111, op := Op.load 31 (Operand.tmp 110), type := 31, pos := "ref.go:270", after := #[{ on := 3, ground := Ground.data }], guard := none }) rfl (fun KK hKK => ?_) (AllReadyH.cons (o := { dst := some 114, op := Op.call { callee := Callee.value (Operand.func 51), args := #[Operand.tmp 113], argTypes := #[3] }, type := 9, pos := "ref.go:270", after := #[{ on := 6, ground := Ground.data }], guard := none }) rfl (fun KK hKK => ?_) AllReadyH.nil)
                  · go_simp
                    refine hKK.out _ _ trivial (fun hHeld => ?_)
                    clear hKK KK
                    try simp only [Act.put, List.setIfInBounds_toArray, List.set_cons_zero, List.set_cons_succ]
                    refine wpAnyH_ready (rs := [7]) (by kernel_rfl) (by simp) ?_
                    refine AllReadyH.cons (o := { dst := some 114, op := Op.call { callee := Callee.value (Operand.func 51), args := #[Operand.tmp 113], argTypes := #[3] }, type := 9, pos := "ref.go:270", after := #[{ on := 6, ground := Ground.data }], guard := none }) rfl (fun KK hKK => ?_) AllReadyH.nil
                    go_simp
                    refine (unhide HT).mono ?_
                    rintro e w2 ⟨rfl, bb2⟩
                    have h2 := (unhide HU).below bb2
                    have d2 : w2.cell? ⟨b, 6, none⟩ = some (.slice sa t3.length sc) := h2.wk.c6
                    have H2 := hide h2
                    have B2 := hide bb2
                    clear h2 bb2
                    refine hKK.out _ _ trivial (fun hHeld => ?_)
                    clear hKK KK
                    try simp only [Act.put, List.setIfInBounds_toArray, List.set_cons_zero, List.set_cons_succ]
                    refine wpAnyH_take (i := 8) (oi := { dst := some 115, op := Op.build 68 #[(0, Operand.tmp 112), (1, Operand.tmp 114)], type := 68, pos := "ref.go:270", after := #[{ on := 5, ground := Ground.data }, { on := 7, ground := Ground.data }], guard := none }) (v := ?_) rfl (by kernel_rfl) (by kernel_rfl) (by kernel_rfl) (fun _ _ _ h => h) (Or.inl ⟨by rfl, ?_⟩) (by assumption) ?_
                    rotate_left
                    · intro w hSw; (try dsimp only at hSw); go_simp; (try with_reducible rfl)
                    simp only [Act.put, List.setIfInBounds_toArray, List.set_cons_zero, List.set_cons_succ]
                    refine wpAnyH_ready (rs := [9]) (by kernel_rfl) (by simp) ?_
                    refine AllReadyH.cons (o := { dst := some 116, op := Op.buildSlice 31 1 #[(0, Operand.tmp 115)], type := 31, pos := "ref.go:270", after := #[{ on := 8, ground := Ground.data }], guard := none }) rfl (fun KK hKK => ?_) AllReadyH.nil
                    go_simp
                    have d3 : (w2.alloc (.cells #[.string (BA nm), .string (BA (textL v))] 68)).cell? ⟨b, 6, none⟩ = some (.slice sa t3.length sc) := ((unhide H2).below ((Below.refl _ w2).alloc (Nat.le_refl _) _)).wk.c6
                    refine hKK.out _ _ trivial (fun hHeld => ?_)
                    clear hKK KK
                    try simp only [Act.put, List.setIfInBounds_toArray, List.set_cons_zero, List.set_cons_succ]
                    refine wpAnyH_ready (rs := [10]) (by kernel_rfl) (by simp) ?_
                    refine AllReadyH.cons (o := { dst := some 117, op := Op.call { callee := Callee.builtin Builtin.append, args := #[Operand.tmp 111, Operand.tmp 116], argTypes := #[31, 31] }, type := 31, pos := "ref.go:270", after := #[{ on := 4, ground := Ground.data }, { on := 9, ground := Ground.data }, { on := 7, ground := Ground.chain }], guard := none }) rfl (fun KK hKK => ?_) AllReadyH.nil
                    refine step_append_lies _ (by rfl) _ _ _ (by rfl) (b + 1) 68 i4 _ 2 32 Tryz.underlying31 h4i h4z h4s h4b rfl (by omega) (.slice sa t3.length sc) t3.length (flatP t3) (by simp [Act.eval]) (ownsRow_below (unhide H2).row ((Below.refl _ w2).alloc (Nat.le_refl _) _)) ⟨w2.heap.size, 0, none⟩ 1 1 [.string (BA nm), .string (BA (textL v))] (by simp [Act.eval]) rfl two_cells two_one (by omega) (by unfold maxLen; omega) (by omega) (by have := (unhide H2).wk.blk.lt; simp; omega) (w2.heap.size + 1) (by simp) ?_
                    intro gg cg w3 hown3 hgrow hat hlt3
                    have hf := set_finD (unhide H2) hvi (by omega) hown3 hgrow
                    have d4 := hf.1
                    have d5 := hf.2.1
                    have HF := hide hf.2.2
                    clear hown3 hgrow hat hf
                    refine hKK.out _ _ trivial (fun hHeld => ?_)
                    clear hKK KK
                    try simp only [Act.put, List.setIfInBounds_toArray, List.set_cons_zero, List.set_cons_succ]
                    refine wpAnyH_take (i := 11) (oi := { dst := some 118, op := Op.nilCheck (Operand.tmp 107), type := 0, pos := "ref.go:270", after := #[{ on := 0, ground := Ground.data }, { on := 0, ground := Ground.phase }, { on := 1, ground := Ground.phase }, { on := 2, ground := Ground.phase }, { on := 3, ground := Ground.phase }, { on := 4, ground := Ground.phase }, { on := 5, ground := Ground.phase }, { on := 6, ground := Ground.phase }, { on := 7, ground := Ground.phase }, { on := 8, ground := Ground.phase }, { on := 9, ground := Ground.phase }, { on := 10, ground := Ground.phase }], guard := none }) (v := ?_) rfl (by kernel_rfl) (by kernel_rfl) (by kernel_rfl) (fun _ _ _ h => h) (Or.inl ⟨by rfl, ?_⟩) (by assumption) ?_
                    rotate_left
                    · intro w hSw; (try dsimp only at hSw); go_simp; (try with_reducible rfl)
                    simp only [Act.put, List.setIfInBounds_toArray, List.set_cons_zero, List.set_cons_succ]
                    refine wpAnyH_take (i := 12) (oi := { dst := some 119, op := Op.fieldAddr 66 (Operand.tmp 118) 6, type := 0, pos := "ref.go:270", after := #[{ on := 11, ground := Ground.data }, { on := 0, ground := Ground.phase }, { on := 1, ground := Ground.phase }, { on := 2, ground := Ground.phase }, { on := 3, ground := Ground.phase }, { on := 4, ground := Ground.phase }, { on := 5, ground := Ground.phase }, { on := 6, ground := Ground.phase }, { on := 7, ground := Ground.phase }, { on := 8, ground := Ground.phase }, { on := 9, ground := Ground.phase }, { on := 10, ground := Ground.phase }], guard := none }) (v := ?_) rfl (by kernel_rfl) (by kernel_rfl) (by kernel_rfl) (fun _ _ _ h => h) (Or.inl ⟨by rfl, ?_⟩) (by assumption) ?_
                    rotate_left
                    · intro w hSw; (try dsimp only at hSw); go_simp; (try with_reducible rfl)
                    simp only [Act.put, List.setIfInBounds_toArray, List.set_cons_zero, List.set_cons_succ]
                    refine wpAnyH_ready (rs := [13]) (by kernel_rfl) (by simp) ?_
                    refine AllReadyH.cons (o := { dst := none, op := Op.store 31 (Operand.tmp 119) (Operand.tmp 117), type := 0, pos := "ref.go:270", after := #[{ on := 12, ground := Ground.data }, { on := 10, ground := Ground.data }, { on := 10, ground := Ground.chain }, { on := 0, ground := Ground.phase }, { on := 1, ground := Ground.phase }, { on := 2, ground := Ground.phase }, { on := 3, ground := Ground.phase }, { on := 4, ground := Ground.phase }, { on := 5, ground := Ground.phase }, { on := 6, ground := Ground.phase }, { on := 7, ground := Ground.phase }, { on := 8, ground := Ground.phase }, { on := 9, ground := Ground.phase }, { on := 10, ground := Ground.phase }], guard := none }) rfl (fun KK hKK => ?_) AllReadyH.nil
                    go_simp
                    refine hKK.out _ _ trivial (fun hHeld => ?_)
                    clear hKK KK hHeld
                    refine wpAnyH_done (by kernel_rfl) ?_ _
                    clear d4 d5
                    go_wp2
                    go_ret
                    have hd := unhide HF
                    obtain ⟨y, rest, hde, hrest, hev⟩ := (unhide HP).is
                    exact out_ok ((unhide HP).bel.trans (((below_of_grown (grown_drew' (World.grownBy.refl wS none))).mono (by omega)).trans (((unhide B2).mono (by show b ≤ wS.heap.size; omega)).trans hd.1))) (unhide HP).le hd.2 hrest hde (unhide HP).num ((hev.set nm).1 (unhide HL))
                  · go_simp
                    refine (unhide HT).mono ?_
                    rintro e w2 ⟨rfl, bb2⟩
                    have h2 := (unhide HU).below bb2
                    have d2 : w2.cell? ⟨b, 6, none⟩ = some (.slice sa t3.length sc) := h2.wk.c6
                    have H2 := hide h2
                    have B2 := hide bb2
                    clear h2 bb2
                    refine hKK.out _ _ trivial (fun hHeld => ?_)
                    clear hKK KK
                    try simp only [Act.put, List.setIfInBounds_toArray, List.set_cons_zero, List.set_cons_succ]
                    refine wpAnyH_take (i := 8) (oi := { dst := some 115, op := Op.build 68 #[(0, Operand.tmp 112), (1, Operand.tmp 114)], type := 68, pos := "ref.go:270", after := #[{ on := 5, ground := Ground.data }, { on := 7, ground := Ground.data }], guard := none }) (v := ?_) rfl (by kernel_rfl) (by kernel_rfl) (by kernel_rfl) (fun _ _ _ h => h) (Or.inl ⟨by rfl, ?_⟩) (by assumption) ?_
                    rotate_left
                    · intro w hSw; (try dsimp only at hSw); go_simp; (try with_reducible rfl)
                    simp only [Act.put, List.setIfInBounds_toArray, List.set_cons_zero, List.set_cons_succ]
                    refine wpAnyH_ready (rs := [4, 9]) (by kernel_rfl) (by simp) ?_
                    refine AllReadyH.cons (o := { dst := some 111, op := Op.load 31 (Operand.tmp 110), type := 31, pos := "ref.go:270", after := #[{ on := 3, ground := Ground.data }], guard := none }) rfl (fun KK hKK => ?_) (AllReadyH.cons (o := { dst := some 116, op := Op.buildSlice 31 1 #[(0, Operand.tmp 115)], type := 31, pos := "ref.go:270", after := #[{ on := 8, ground := Ground.data }], guard := none }) rfl (fun KK hKK => ?_) AllReadyH.nil)
                    · go_simp
                      refine hKK.out _ _ trivial (fun hHeld => ?_)
                      clear hKK KK
                      try simp only [Act.put, List.setIfInBounds_toArray, List.set_cons_zero, List.set_cons_succ]
                      refine wpAnyH_ready (rs := [9]) (by kernel_rfl) (by simp) ?_
                      refine AllReadyH.cons (o := { dst := some 116, op := Op.buildSlice 31 1 #[(0, Operand.tmp 115)], type := 31, pos := "ref.go:270", after := #[{ on := 8, ground := Ground.data }], guard := none }) rfl (fun KK hKK => ?_) AllReadyH.nil
                      go_simp
                      have d3 : (w2.alloc (.cells #[.string (BA nm), .string (BA (textL v))] 68)).cell? ⟨b, 6, none⟩ = some (.slice sa t3.length sc) := ((unhide H2).below ((Below.refl _ w2).alloc (Nat.le_refl _) _)).wk.c6
                      refine hKK.out _ _ trivial (fun hHeld => ?_)
                      clear hKK KK
                      try simp only [Act.put, List.setIfInBounds_toArray, List.set_cons_zero, List.set_cons_succ]
                      refine wpAnyH_ready (rs := [10]) (by kernel_rfl) (by simp) ?_
                      refine AllReadyH.cons (o := { dst := some 117, op := Op.call { callee := Callee.builtin Builtin.append, args := #[Operand.tmp 111, Operand.tmp 116], argTypes := #[31, 31] }, type := 31, pos := "ref.go:270", after := #[{ on := 4, ground := Ground.data }, { on := 9, ground := Ground.data }, { on := 7, ground := Ground.chain }], guard := none }) rfl (fun KK hKK => ?_) AllReadyH.nil
                      refine step_append_lies _ (by rfl) _ _ _ (by rfl) (b + 1) 68 i4 _ 2 32 Tryz.underlying31 h4i h4z h4s h4b rfl (by omega) (.slice sa t3.length sc) t3.length (flatP t3) (by simp [Act.eval]) (ownsRow_below (unhide H2).row ((Below.refl _ w2).alloc (Nat.le_refl _) _)) ⟨w2.heap.size, 0, none⟩ 1 1 [.string (BA nm), .string (BA (textL v))] (by simp [Act.eval]) rfl two_cells two_one (by omega) (by unfold maxLen; omega) (by omega) (by have := (unhide H2).wk.blk.lt; simp; omega) (w2.heap.size + 1) (by simp) ?_
                      intro gg cg w3 hown3 hgrow hat hlt3
                      have hf := set_finD (unhide H2) hvi (by omega) hown3 hgrow
                      have d4 := hf.1
                      have d5 := hf.2.1
                      have HF := hide hf.2.2
                      clear hown3 hgrow hat hf
                      refine hKK.out _ _ trivial (fun hHeld => ?_)
                      clear hKK KK
                      try simp only [Act.put, List.setIfInBounds_toArray, List.set_cons_zero, List.set_cons_succ]
                      refine wpAnyH_take (i := 11) (oi := { dst := some 118, op := Op.nilCheck (Operand.tmp 107), type := 0, pos := "ref.go:270", after := #[{ on := 0, ground := Ground.data }, { on := 0, ground := Ground.phase }, { on := 1, ground := Ground.phase }, { on := 2, ground := Ground.phase }, { on := 3, ground := Ground.phase }, { on := 4, ground := Ground.phase }, { on := 5, ground := Ground.phase }, { on := 6, ground := Ground.phase }, { on := 7, ground := Ground.phase }, { on := 8, ground := Ground.phase }, { on := 9, ground := Ground.phase }, { on := 10, ground := Ground.phase }], guard := none }) (v := ?_) rfl (by kernel_rfl) (by kernel_rfl) (by kernel_rfl) (fun _ _ _ h => h) (Or.inl ⟨by rfl, ?_⟩) (by assumption) ?_
                      rotate_left
                      · intro w hSw; (try dsimp only at hSw); go_simp; (try with_reducible rfl)
                      simp only [Act.put, List.setIfInBounds_toArray, List.set_cons_zero, List.set_cons_succ]
                      refine wpAnyH_take (i := 12) (oi := { dst := some 119, op := Op.fieldAddr 66 (Operand.tmp 118) 6, type := 0, pos := "ref.go:270", after := #[{ on := 11, ground := Ground.data }, { on := 0, ground := Ground.phase }, { on := 1, ground := Ground.phase }, { on := 2, ground := Ground.phase }, { on := 3, ground := Ground.phase }, { on := 4, ground := Ground.phase }, { on := 5, ground := Ground.phase }, { on := 6, ground := Ground.phase }, { on := 7, ground := Ground.phase }, { on := 8, ground := Ground.phase }, { on := 9, ground := Ground.phase }, { on := 10, ground := Ground.phase }], guard := none }) (v := ?_) rfl (by kernel_rfl) (by kernel_rfl) (by kernel_rfl) (fun _ _ _ h => h) (Or.inl ⟨by rfl, ?_⟩) (by assumption) ?_
                      rotate_left
                      · intro w hSw; (try dsimp only at hSw); go_simp; (try with_reducible rfl)
                      simp only [Act.put, List.setIfInBounds_toArray, List.set_cons_zero, List.set_cons_succ]
                      refine wpAnyH_ready (rs := [13]) (by kernel_rfl) (by simp) ?_
                      refine AllReadyH.cons (o := { dst := none, op := Op.store 31 (Operand.tmp 119) (Operand.tmp 117), type := 0, pos := "ref.go:270", after := #[{ on := 12, ground := Ground.data }, { on := 10, ground := Ground.data }, { on := 10, ground := Ground.chain }, { on := 0, ground := Ground.phase }, { on := 1, ground := Ground.phase }, { on := 2, ground := Ground.phase }, { on := 3, ground := Ground.phase }, { on := 4, ground := Ground.phase }, { on := 5, ground := Ground.phase }, { on := 6, ground := Ground.phase }, { on := 7, ground := Ground.phase }, { on := 8, ground := Ground.phase }, { on := 9, ground := Ground.phase }, { on := 10, ground := Ground.phase }], guard := none }) rfl (fun KK hKK => ?_) AllReadyH.nil
                      go_simp
                      refine hKK.out _ _ trivial (fun hHeld => ?_)
                      clear hKK KK hHeld
                      refine wpAnyH_done (by kernel_rfl) ?_ _
                      clear d4 d5
                      go_wp2
                      go_ret
                      have hd := unhide HF
                      obtain ⟨y, rest, hde, hrest, hev⟩ := (unhide HP).is
                      exact out_ok ((unhide HP).bel.trans (((below_of_grown (grown_drew' (World.grownBy.refl wS none))).mono (by omega)).trans (((unhide B2).mono (by show b ≤ wS.heap.size; omega)).trans hd.1))) (unhide HP).le hd.2 hrest hde (unhide HP).num ((hev.set nm).1 (unhide HL))
                    · go_simp
                      have d3 : (w2.alloc (.cells #[.string (BA nm), .string (BA (textL v))] 68)).cell? ⟨b, 6, none⟩ = some (.slice sa t3.length sc) := ((unhide H2).below ((Below.refl _ w2).alloc (Nat.le_refl _) _)).wk.c6
                      refine hKK.out _ _ trivial (fun hHeld => ?_)
                      clear hKK KK
                      try simp only [Act.put, List.setIfInBounds_toArray, List.set_cons_zero, List.set_cons_succ]
                      refine wpAnyH_ready (rs := [4]) (by kernel_rfl) (by simp) ?_
                      refine AllReadyH.cons (o := { dst := some 111, op := Op.load 31 (Operand.tmp 110), type := 31, pos := "ref.go:270", after := #[{ on := 3, ground := Ground.data }], guard := none }) rfl (fun KK hKK => ?_) AllReadyH.nil
                      go_simp
                      refine hKK.out _ _ trivial (fun hHeld => ?_)
                      clear hKK KK
                      try simp only [Act.put, List.setIfInBounds_toArray, List.set_cons_zero, List.set_cons_succ]
                      refine wpAnyH_ready (rs := [10]) (by kernel_rfl) (by simp) ?_
                      refine AllReadyH.cons (o := { dst := some 117, op := Op.call { callee := Callee.builtin Builtin.append, args := #[Operand.tmp 111, Operand.tmp 116], argTypes := #[31, 31] }, type := 31, pos := "ref.go:270", after := #[{ on := 4, ground := Ground.data }, { on := 9, ground := Ground.data }, { on := 7, ground := Ground.chain }], guard := none }) rfl (fun KK hKK => ?_) AllReadyH.nil
                      refine step_append_lies _ (by rfl) _ _ _ (by rfl) (b + 1) 68 i4 _ 2 32 Tryz.underlying31 h4i h4z h4s h4b rfl (by omega) (.slice sa t3.length sc) t3.length (flatP t3) (by simp [Act.eval]) (ownsRow_below (unhide H2).row ((Below.refl _ w2).alloc (Nat.le_refl _) _)) ⟨w2.heap.size, 0, none⟩ 1 1 [.string (BA nm), .string (BA (textL v))] (by simp [Act.eval]) rfl two_cells two_one (by omega) (by unfold maxLen; omega) (by omega) (by have := (unhide H2).wk.blk.lt; simp; omega) (w2.heap.size + 1) (by simp) ?_
                      intro gg cg w3 hown3 hgrow hat hlt3
                      have hf := set_finD (unhide H2) hvi (by omega) hown3 hgrow
                      have d4 := hf.1
                      have d5 := hf.2.1
                      have HF := hide hf.2.2
                      clear hown3 hgrow hat hf
                      refine hKK.out _ _ trivial (fun hHeld => ?_)
                      clear hKK KK
                      try simp only [Act.put, List.setIfInBounds_toArray, List.set_cons_zero, List.set_cons_succ]
                      refine wpAnyH_take (i := 11) (oi := { dst := some 118, op := Op.nilCheck (Operand.tmp 107), type := 0, pos := "ref.go:270", after := #[{ on := 0, ground := Ground.data }, { on := 0, ground := Ground.phase }, { on := 1, ground := Ground.phase }, { on := 2, ground := Ground.phase }, { on := 3, ground := Ground.phase }, { on := 4, ground := Ground.phase }, { on := 5, ground := Ground.phase }, { on := 6, ground := Ground.phase }, { on := 7, ground := Ground.phase }, { on := 8, ground := Ground.phase }, { on := 9, ground := Ground.phase }, { on := 10, ground := Ground.phase }], guard := none }) (v := ?_) rfl (by kernel_rfl) (by kernel_rfl) (by kernel_rfl) (fun _ _ _ h => h) (Or.inl ⟨by rfl, ?_⟩) (by assumption) ?_
                      rotate_left
                      · intro w hSw; (try dsimp only at hSw); go_simp; (try with_reducible rfl)
                      simp only [Act.put, List.setIfInBounds_toArray, List.set_cons_zero, List.set_cons_succ]
                      refine wpAnyH_take (i := 12) (oi := { dst := some 119, op := Op.fieldAddr 66 (Operand.tmp 118) 6, type := 0, pos := "ref.go:270", after := #[{ on := 11, ground := Ground.data }, { on := 0, ground := Ground.phase }, { on := 1, ground := Ground.phase }, { on := 2, ground := Ground.phase }, { on := 3, ground := Ground.phase }, { on := 4, ground := Ground.phase }, { on := 5, ground := Ground.phase }, { on := 6, ground := Ground.phase }, { on := 7, ground := Ground.phase }, { on := 8, ground := Ground.phase }, { on := 9, ground := Ground.phase }, { on := 10, ground := Ground.phase }], guard := none }) (v := ?_) rfl (by kernel_rfl) (by kernel_rfl) (by kernel_rfl) (fun _ _ _ h => h) (Or.inl ⟨by rfl, ?_⟩) (by assumption) ?_
                      rotate_left
                      · intro w hSw; (try dsimp only at hSw); go_simp; (try with_reducible rfl)
                      simp only [Act.put, List.setIfInBounds_toArray, List.set_cons_zero, List.set_cons_succ]
                      refine wpAnyH_ready (rs := [13]) (by kernel_rfl) (by simp) ?_
                      refine AllReadyH.cons (o := { dst := none, op := Op.store 31 (Operand.tmp 119) (Operand.tmp 117), type := 0, pos := "ref.go:270", after := #[{ on := 12, ground := Ground.data }, { on := 10, ground := Ground.data }, { on := 10, ground := Ground.chain }, { on := 0, ground := Ground.phase }, { on := 1, ground := Ground.phase }, { on := 2, ground := Ground.phase }, { on := 3, ground := Ground.phase }, { on := 4, ground := Ground.phase }, { on := 5, ground := Ground.phase }, { on := 6, ground := Ground.phase }, { on := 7, ground := Ground.phase }, { on := 8, ground := Ground.phase }, { on := 9, ground := Ground.phase }, { on := 10, ground := Ground.phase }], guard := none }) rfl (fun KK hKK => ?_) AllReadyH.nil
                      go_simp
                      refine hKK.out _ _ trivial (fun hHeld => ?_)
                      clear hKK KK hHeld
                      refine wpAnyH_done (by kernel_rfl) ?_ _
                      clear d4 d5
                      go_wp2
                      go_ret
                      have hd := unhide HF
                      obtain ⟨y, rest, hde, hrest, hev⟩ := (unhide HP).is
                      exact out_ok ((unhide HP).bel.trans (((below_of_grown (grown_drew' (World.grownBy.refl wS none))).mono (by omega)).trans (((unhide B2).mono (by show b ≤ wS.heap.size; omega)).trans hd.1))) (unhide HP).le hd.2 hrest hde (unhide HP).num ((hev.set nm).1 (unhide HL))
                · rw [hl]
                  have HL := hide hl
                  clear hl
                  go_wp2
                  go_ret
                  have hp := unhide HP
                  cases f3
                  · obtain ⟨y, rest, hde, hrest, hev⟩ := hp.is
                    exact out_ok hp.bel hp.le hp.ws hrest hde hp.num ((hev.set nm).2 (unhide HL))
                  · exact out_bad hp.bel hp.le hp.ws hp.is v hp.num
            · -- no setting sign
              have hr61' : (byteA r 0 == 61) = false := by simpa using hr61
              have hsd' : setD m = none := by
                rw [hsd, if_neg hr61]
              rw [hsd'] at hde
              have HDE := hide hde
              clear hsd hsd' hde hdk3 hk3 hr61'
              rcases htests with g1 | ⟨g1, g2⟩ | ⟨g1, g2, g3⟩ | ⟨g1, g2, g3, g4⟩ | ⟨g1, g2, g3, g4, g5⟩
              all_goals
                go_wp2_with fail
                refine (unhide HS0).mono ?_
                rintro en w4 ⟨rfl, hw4⟩
                have hw5 := hw4.symm
                subst hw5
                clear hw4
                go_wp2_with fail
                refine (unhide HS1).mono ?_
                rintro en w4 ⟨rfl, hw4⟩
                have hw5 := hw4.symm
                subst hw5
                clear hw4
                go_wp2_with fail
                refine (unhide HC _ n₀ b s p1 d e va vars sets sv (unhide HT) hN1).mono ?_
                rintro en w8 ⟨b8, n8, rfl, hn8, p8, e8, t8, sv8, hp8, hr8⟩
                have HE8 := hide (And.intro b8 (And.intro hn8 hr8))
                clear b8 hn8 hr8 c0 c1 z1
                go_wp2
                go_ret
                refine ⟨(unhide BT).trans (unhide HE8).1, n8, rfl, (unhide HE8).2.1, p8, e8, t8, sv8, by omega, ?_⟩
                rw [unhide HDE]
                have hr8 := (unhide HE8).2.2
                rw [unhide HD1] at hr8
                exact hr8
          · obtain ⟨g1, g2, g3, g4, g5⟩ := opB_none hop
            have hsg := signD_no (r := r) hop
            rw [hsg] at hsd
            clear hsg hop ht
            by_cases hc61 : c = 61
            · rw [if_pos hc61] at hsd
              have hcI : (c.toNat : Int) = 61 := by rw [hc61]; rfl
              rw [hcI] at HS0 g1 g2 g3 g4 g5
              clear g1 g2 g3 g4 g5
              by_cases hr61 : byteA r 0 = 61
              · have hsd' : setD m = none := by
                  rw [hsd, if_pos hr61]
                rw [hr61] at HS1
                rw [hsd'] at hde
                have HDE := hide hde
                clear hsd hsd' hde hr61 hdk3 hk3 hc61 hcI
                go_wp2_with fail
                refine (unhide HS0).mono ?_
                rintro en w4 ⟨rfl, hw4⟩
                have hw5 := hw4.symm
                subst hw5
                clear hw4
                go_wp2_with fail
                refine (unhide HS0).mono ?_
                rintro en w4 ⟨rfl, hw4⟩
                have hw5 := hw4.symm
                subst hw5
                clear hw4
                go_wp2_with fail
                refine (unhide HS1).mono ?_
                rintro en w4 ⟨rfl, hw4⟩
                have hw5 := hw4.symm
                subst hw5
                clear hw4
                go_wp2_with fail
                refine (unhide HC _ n₀ b s p1 d e va vars sets sv (unhide HT) hN1).mono ?_
                rintro en w8 ⟨b8, n8, rfl, hn8, p8, e8, t8, sv8, hp8, hr8⟩
                have HE8 := hide (And.intro b8 (And.intro hn8 hr8))
                clear b8 hn8 hr8 c0 c1 z1
                go_wp2
                go_ret
                refine ⟨(unhide BT).trans (unhide HE8).1, n8, rfl, (unhide HE8).2.1, p8, e8, t8, sv8, by omega, ?_⟩
                rw [unhide HDE]
                have hr8 := (unhide HE8).2.2
                rw [unhide HD1] at hr8
                exact hr8
              · have hr61' : (byteA r 0 == 61) = false := by simpa using hr61
                have hsd' : setD m = some ([], r) := by
                  rw [hsd, if_neg hr61]
                rw [hsd'] at hde
                simp only [] at hde
                obtain ⟨q, hqe⟩ : ∃ x, x = k3 := ⟨_, rfl⟩
                rw [← hqe] at hdk3
                have hwq : IntKind.i64.wrap ((k : Int) + 1) = (q : Int) := by rw [hwk3, hqe]
                have hq2 : q ≤ s.size ∧ k < q := by omega
                have HE2 := hide (unhide HE (s.size - q) (by have := unhide HN; omega))
                have HDQ := hide hdk3
                have HDE := hide hde
                have hqk : (k3 : Int) = (q : Int) := by omega
                clear hsd hsd' hde hdk3 hr61 hk3 hc61 hcI hwk3
                have hqe' := hqe
                subst hqe'
                clear hqe hqk
                go_wp2_with fail
                refine (unhide HS0).mono ?_
                rintro en w4 ⟨rfl, hw4⟩
                have hw5 := hw4.symm
                subst hw5
                clear hw4
                go_wp2_with fail
                refine (unhide HS0).mono ?_
                rintro en w4 ⟨rfl, hw4⟩
                have hw5 := hw4.symm
                subst hw5
                clear hw4
                go_wp2_with fail
                refine (unhide HS1).mono ?_
                rintro en w4 ⟨rfl, hw4⟩
                have hw5 := hw4.symm
                subst hw5
                clear hw4
                have HWA : Hid (Ws (wt.setCell ⟨b, 1, none⟩ (.int .i64 (q : Int))) n₀ b s q d false e va vars sets sv) := hide ((unhide HT).next (grown_setCell wt ⟨b, 1, none⟩ _) ((unhide HT).wk.to q hq2.1) (by omega) (by omega))
                have BA2 := hide ((unhide BT).trans (below_some (grown_setCell wt ⟨b, 1, none⟩ (.int .i64 (q : Int))) (Nat.le_of_lt (unhide HT).wk.blk.lt)))
                have hcnt := (unhide HT).cnt
                go_wp2_with fail
                refine (unhide HE2 _ n₀ b s q d e va vars sets sv (unhide HWA) (by omega)).mono ?_
                rintro en wS ⟨b8, v, rfl, hv8, p3, e3, t3, sv3, hp3, hr3⟩
                rw [unhide HDQ] at hr3
                obtain ⟨f3, HP⟩ : ∃ f3, Hid (SetP w n₀ b s p d e va vars sets nm v p3 f3 e3 t3 sv3 wS) := by
                  have hde := unhide HDE
                  rcases hq3 : DE r with _ | ⟨x, rest⟩
                  · rw [hq3] at hr3 hde
                    exact ⟨true, hide ⟨(unhide BA2).trans b8, hv8, by omega, hr3, fun h0 => (by rw [live_bad] at h0; cases h0), hde⟩⟩
                  · rw [hq3] at hr3 hde
                    simp only [mkSet_none] at hde
                    obtain ⟨hws, hrest, hev⟩ := hr3
                    refine ⟨false, hide ⟨(unhide BA2).trans b8, hv8, by omega, hws, fun h0 => ?_, x, rest, hde, hrest, hev⟩⟩
                    have h1 := hev.len h0
                    have h2 := (d_len _).1 _ _ _ hq3
                    rw [← unhide HDQ, ← hrest, List.length_drop, List.length_drop] at h2
                    have h3 : s.data.toList.length = s.size := by simp
                    have h4 := hws.wk.le
                    omega
                clear hr3 b8 hv8 c0 c1 z1
                go_wp2_with fail
                refine (rlive_any b s p3 d f3 e3 va sv3 wS (unhide HP).ws.wk).mono ?_
                rintro en w9 ⟨rfl, hw9⟩
                have hw10 := hw9.symm
                subst hw10
                clear hw9
                rcases Bool.eq_false_or_eq_true (liveB d f3 e3) with hl | hl
                · rw [hl]
                  have hroom := (unhide HP).room hl
                  have hvi := (unhide HP).num
                  have hps := (unhide HP).ws.wk.le
                  have hb5 := (unhide HP).ws.wk.blk.lt
                  obtain ⟨_, hf3, _⟩ := live_same hl
                  subst hf3
                  have HL := hide hl
                  clear hl
                  obtain ⟨i4, h4i, h4z, h4s, h4b⟩ := info_parts info68
                  obtain ⟨sa, sc, rfl⟩ := own_shape (unhide HP).ws.row
                  have hU := (unhide HP).ws.below (below_of_grown (grown_drew' (World.grownBy.refl wS none)))
                  have c6 : wS.cell? ⟨b, 6, none⟩ = some (.slice sa t3.length sc) := (unhide HP).ws.wk.c6
                  have HT : Hid (Calls Tryz.prog 51 #[.int .i64 v] wS.drew fun e w' => e = .returned (.string (BA (textL v))) ∧ Below wS.drew.heap.size wS.drew w') := hide (rtext_any v wS.drew hvi.1 hvi.2)
                  have HU := hide hU
                  clear hU
                  go_wp2_with fail
                  refine wp_region_held_drew (S := fun _ => True) (by kernel_rfl) trivial (fun hHeld => ?_)
                  refine wpAnyH_take (i := 0) (oi := { dst := some 107, op := Op.move (Operand.tmp 0), type := 64, pos := "ref.go:270", after := #[], guard := none }) (v := ?_) rfl (by kernel_rfl) (by kernel_rfl) (by kernel_rfl) (fun _ _ _ h => h) (Or.inl ⟨by rfl, ?_⟩) (by assumption) ?_
                  rotate_left
                  · intro w hSw; (try dsimp only at hSw); go_simp; (try with_reducible rfl)
                  simp only [Act.put, List.setIfInBounds_toArray, List.set_cons_zero, List.set_cons_succ]
                  refine wpAnyH_take (i := 1) (oi := { dst := some 108, op := Op.move (Operand.tmp 0), type := 64, pos := "ref.go:270", after := #[], guard := none }) (v := ?_) rfl (by kernel_rfl) (by kernel_rfl) (by kernel_rfl) (fun _ _ _ h => h) (Or.inl ⟨by rfl, ?_⟩) (by assumption) ?_
                  rotate_left
                  · intro w hSw; (try dsimp only at hSw); go_simp; (try with_reducible rfl)
                  simp only [Act.put, List.setIfInBounds_toArray, List.set_cons_zero, List.set_cons_succ]
                  refine wpAnyH_take (i := 2) (oi := { dst := some 109, op := Op.nilCheck (Operand.tmp 108), type := 0, pos := "ref.go:270", after := #[{ on := 1, ground := Ground.data }], guard := none }) (v := ?_) rfl (by kernel_rfl) (by kernel_rfl) (by kernel_rfl) (fun _ _ _ h => h) (Or.inl ⟨by rfl, ?_⟩) (by assumption) ?_
                  rotate_left
                  · intro w hSw; (try dsimp only at hSw); go_simp; (try with_reducible rfl)
                  simp only [Act.put, List.setIfInBounds_toArray, List.set_cons_zero, List.set_cons_succ]
                  refine wpAnyH_take (i := 3) (oi := { dst := some 110, op := Op.fieldAddr 66 (Operand.tmp 109) 6, type := 0, pos := "ref.go:270", after := #[{ on := 2, ground := Ground.data }], guard := none }) (v := ?_) rfl (by kernel_rfl) (by kernel_rfl) (by kernel_rfl) (fun _ _ _ h => h) (Or.inl ⟨by rfl, ?_⟩) (by assumption) ?_
                  rotate_left
                  · intro w hSw; (try dsimp only at hSw); go_simp; (try with_reducible rfl)
                  simp only [Act.put, List.setIfInBounds_toArray, List.set_cons_zero, List.set_cons_succ]
                  refine wpAnyH_take (i := 5) (oi := { dst := some 112, op := Op.move (Operand.tmp 4), type := 9, pos := "ref.go:270", after := #[], guard := none }) (v := ?_) rfl (by kernel_rfl) (by kernel_rfl) (by kernel_rfl) (fun _ _ _ h => h) (Or.inl ⟨by rfl, ?_⟩) (by assumption) ?_
                  rotate_left
                  · intro w hSw; (try dsimp only at hSw); go_simp; (try with_reducible rfl)
                  simp only [Act.put, List.setIfInBounds_toArray, List.set_cons_zero, List.set_cons_succ]
                  refine wpAnyH_take (i := 6) (oi := { dst := some 113, op := Op.move (Operand.tmp 7), type := 3, pos := "ref.go:270", after := #[], guard := none }) (v := ?_) rfl (by kernel_rfl) (by kernel_rfl) (by kernel_rfl) (fun _ _ _ h => h) (Or.inl ⟨by rfl, ?_⟩) (by assumption) ?_
                  rotate_left
                  · intro w hSw; (try dsimp only at hSw); go_simp; (try with_reducible rfl)
                  simp only [Act.put, List.setIfInBounds_toArray, List.set_cons_zero, List.set_cons_succ]
                  refine wpAnyH_ready (rs := [4, 7]) (by kernel_rfl) (by simp) ?_
                  refine AllReadyH.cons (o := { dst := some 111, op := Op.load 31 (Operand.tmp 110), type := 31, pos := "ref.go:270", after := #[{ on := 3, ground := Ground.data }], guard := none }) rfl (fun KK hKK => ?_) (AllReadyH.cons (o := { dst := some 114, op := Op.call { callee := Callee.value (Operand.func 51), args := #[Operand.tmp 113], argTypes := #[3] }, type := 9, pos := "ref.go:270", after := #[{ on := 6, ground := Ground.data }], guard := none }) rfl (fun KK hKK => ?_) AllReadyH.nil)
                  · go_simp
                    refine hKK.out _ _ trivial (fun hHeld => ?_)
                    clear hKK KK
                    try simp only [Act.put, List.setIfInBounds_toArray, List.set_cons_zero, List.set_cons_succ]
                    refine wpAnyH_ready (rs := [7]) (by kernel_rfl) (by simp) ?_
                    refine AllReadyH.cons (o := { dst := some 114, op := Op.call { callee := Callee.value (Operand.func 51), args := #[Operand.tmp 113], argTypes := #[3] }, type := 9, pos := "ref.go:270", after := #[{ on := 6, ground := Ground.data }], guard := none }) rfl (fun KK hKK => ?_) AllReadyH.nil
                    go_simp
                    refine (unhide HT).mono ?_
                    rintro e w2 ⟨rfl, bb2⟩
                    have h2 := (unhide HU).below bb2
                    have d2 : w2.cell? ⟨b, 6, none⟩ = some (.slice sa t3.length sc) := h2.wk.c6
                    have H2 := hide h2
                    have B2 := hide bb2
                    clear h2 bb2
                    refine hKK.out _ _ trivial (fun hHeld => ?_)
                    clear hKK KK
                    try simp only [Act.put, List.setIfInBounds_toArray, List.set_cons_zero, List.set_cons_succ]
                    refine wpAnyH_take (i := 8) (oi := { dst := some 115, op := Op.build 68 #[(0, Operand.tmp 112), (1, Operand.tmp 114)], type := 68, pos := "ref.go:270", after := #[{ on := 5, ground := Ground.data }, { on := 7, ground := Ground.data }], guard := none }) (v := ?_) rfl (by kernel_rfl) (by kernel_rfl) (by kernel_rfl) (fun _ _ _ h => h) (Or.inl ⟨by rfl, ?_⟩) (by assumption) ?_
                    rotate_left
                    · intro w hSw; (try dsimp only at hSw); go_simp; (try with_reducible rfl)
                    simp only [Act.put, List.setIfInBounds_toArray, List.set_cons_zero, List.set_cons_succ]
                    refine wpAnyH_ready (rs := [9]) (by kernel_rfl) (by simp) ?_
                    refine AllReadyH.cons (o := { dst := some 116, op := Op.buildSlice 31 1 #[(0, Operand.tmp 115)], type := 31, pos := "ref.go:270", after := #[{ on := 8, ground := Ground.data }], guard := none }) rfl (fun KK hKK => ?_) AllReadyH.nil
                    go_simp
                    have d3 : (w2.alloc (.cells #[.string (BA nm), .string (BA (textL v))] 68)).cell? ⟨b, 6, none⟩ = some (.slice sa t3.length sc) := ((unhide H2).below ((Below.refl _ w2).alloc (Nat.le_refl _) _)).wk.c6
                    refine hKK.out _ _ trivial (fun hHeld => ?_)
                    clear hKK KK
                    try simp only [Act.put, List.setIfInBounds_toArray, List.set_cons_zero, List.set_cons_succ]
                    refine wpAnyH_ready (rs := [10]) (by kernel_rfl) (by simp) ?_
                    refine AllReadyH.cons (o := { dst := some 117, op := Op.call { callee := Callee.builtin Builtin.append, args := #[Operand.tmp 111, Operand.tmp 116], argTypes := #[31, 31] }, type := 31, pos := "ref.go:270", after := #[{ on := 4, ground := Ground.data }, { on := 9, ground := Ground.data }, { on := 7, ground := Ground.chain }], guard := none }) rfl (fun KK hKK => ?_) AllReadyH.nil
                    refine step_append_lies _ (by rfl) _ _ _ (by rfl) (b + 1) 68 i4 _ 2 32 Tryz.underlying31 h4i h4z h4s h4b rfl (by omega) (.slice sa t3.length sc) t3.length (flatP t3) (by simp [Act.eval]) (ownsRow_below (unhide H2).row ((Below.refl _ w2).alloc (Nat.le_refl _) _)) ⟨w2.heap.size, 0, none⟩ 1 1 [.string (BA nm), .string (BA (textL v))] (by simp [Act.eval]) rfl two_cells two_one (by omega) (by unfold maxLen; omega) (by omega) (by have := (unhide H2).wk.blk.lt; simp; omega) (w2.heap.size + 1) (by simp) ?_
                    intro gg cg w3 hown3 hgrow hat hlt3
                    have hf := set_finD (unhide H2) hvi (by omega) hown3 hgrow
                    have d4 := hf.1
                    have d5 := hf.2.1
                    have HF := hide hf.2.2
                    clear hown3 hgrow hat hf
                    refine hKK.out _ _ trivial (fun hHeld => ?_)
                    clear hKK KK
                    try simp only [Act.put, List.setIfInBounds_toArray, List.set_cons_zero, List.set_cons_succ]
                    refine wpAnyH_take (i := 11) (oi := { dst := some 118, op := Op.nilCheck (Operand.tmp 107), type := 0, pos := "ref.go:270", after := #[{ on := 0, ground := Ground.data }, { on := 0, ground := Ground.phase }, { on := 1, ground := Ground.phase }, { on := 2, ground := Ground.phase }, { on := 3, ground := Ground.phase }, { on := 4, ground := Ground.phase }, { on := 5, ground := Ground.phase }, { on := 6, ground := Ground.phase }, { on := 7, ground := Ground.phase }, { on := 8, ground := Ground.phase }, { on := 9, ground := Ground.phase }, { on := 10, ground := Ground.phase }], guard := none }) (v := ?_) rfl (by kernel_rfl) (by kernel_rfl) (by kernel_rfl) (fun _ _ _ h => h) (Or.inl ⟨by rfl, ?_⟩) (by assumption) ?_
                    rotate_left
                    · intro w hSw; (try dsimp only at hSw); go_simp; (try with_reducible rfl)
                    simp only [Act.put, List.setIfInBounds_toArray, List.set_cons_zero, List.set_cons_succ]
                    refine wpAnyH_take (i := 12) (oi := { dst := some 119, op := Op.fieldAddr 66 (Operand.tmp 118) 6, type := 0, pos := "ref.go:270", after := #[{ on := 11, ground := Ground.data }, { on := 0, ground := Ground.phase }, { on := 1, ground := Ground.phase }, { on := 2, ground := Ground.phase }, { on := 3, ground := Ground.phase }, { on := 4, ground := Ground.phase }, { on := 5, ground := Ground.phase }, { on := 6, ground := Ground.phase }, { on := 7, ground := Ground.phase }, { on := 8, ground := Ground.phase }, { on := 9, ground := Ground.phase }, { on := 10, ground := Ground.phase }], guard := none }) (v := ?_) rfl (by kernel_rfl) (by kernel_rfl) (by kernel_rfl) (fun _ _ _ h => h) (Or.inl ⟨by rfl, ?_⟩) (by assumption) ?_
                    rotate_left
                    · intro w hSw; (try dsimp only at hSw); go_simp; (try with_reducible rfl)
                    simp only [Act.put, List.setIfInBounds_toArray, List.set_cons_zero, List.set_cons_succ]
                    refine wpAnyH_ready (rs := [13]) (by kernel_rfl) (by simp) ?_
                    refine AllReadyH.cons (o := { dst := none, op := Op.store 31 (Operand.tmp 119) (Operand.tmp 117), type := 0, pos := "ref.go:270", after := #[{ on := 12, ground := Ground.data }, { on := 10, ground := Ground.data }, { on := 10, ground := Ground.chain }, { on := 0, ground := Ground.phase }, { on := 1, ground := Ground.phase }, { on := 2, ground := Ground.phase }, { on := 3, ground := Ground.phase }, { on := 4, ground := Ground.phase }, { on := 5, ground := Ground.phase }, { on := 6, ground := Ground.phase }, { on := 7, ground := Ground.phase }, { on := 8, ground := Ground.phase }, { on := 9, ground := Ground.phase }, { on := 10, ground := Ground.phase }], guard := none }) rfl (fun KK hKK => ?_) AllReadyH.nil
                    go_simp
                    refine hKK.out _ _ trivial (fun hHeld => ?_)
                    clear hKK KK hHeld
                    refine wpAnyH_done (by kernel_rfl) ?_ _
                    clear d4 d5
                    go_wp2
                    go_ret
                    have hd := unhide HF
                    obtain ⟨y, rest, hde, hrest, hev⟩ := (unhide HP).is
                    exact out_ok ((unhide HP).bel.trans (((below_of_grown (grown_drew' (World.grownBy.refl wS none))).mono (by omega)).trans (((unhide B2).mono (by show b ≤ wS.heap.size; omega)).trans hd.1))) (unhide HP).le hd.2 hrest hde (unhide HP).num ((hev.set nm).1 (unhide HL))
                  · go_simp
                    refine (unhide HT).mono ?_
                    rintro e w2 ⟨rfl, bb2⟩
                    have h2 := (unhide HU).below bb2
                    have d2 : w2.cell? ⟨b, 6, none⟩ = some (.slice sa t3.length sc) := h2.wk.c6
                    have H2 := hide h2
                    have B2 := hide bb2
                    clear h2 bb2
                    refine hKK.out _ _ trivial (fun hHeld => ?_)
                    clear hKK KK
                    try simp only [Act.put, List.setIfInBounds_toArray, List.set_cons_zero, List.set_cons_succ]
                    refine wpAnyH_take (i := 8) (oi := { dst := some 115, op := Op.build 68 #[(0, Operand.tmp 112), (1, Operand.tmp 114)], type := 68, pos := "ref.go:270", after := #[{ on := 5, ground := Ground.data }, { on := 7, ground := Ground.data }], guard := none }) (v := ?_) rfl (by kernel_rfl) (by kernel_rfl) (by kernel_rfl) (fun _ _ _ h => h) (Or.inl ⟨by rfl, ?_⟩) (by assumption) ?_
                    rotate_left
                    · intro w hSw; (try dsimp only at hSw); go_simp; (try with_reducible rfl)
                    simp only [Act.put, List.setIfInBounds_toArray, List.set_cons_zero, List.set_cons_succ]
                    refine wpAnyH_ready (rs := [4, 9]) (by kernel_rfl) (by simp) ?_
                    refine AllReadyH.cons (o := { dst := some 111, op := Op.load 31 (Operand.tmp 110), type := 31, pos := "ref.go:270", after := #[{ on := 3, ground := Ground.data }], guard := none }) rfl (fun KK hKK => ?_) (AllReadyH.cons (o := { dst := some 116, op := Op.buildSlice 31 1 #[(0, Operand.tmp 115)], type := 31, pos := "ref.go:270", after := #[{ on := 8, ground := Ground.data }], guard := none }) rfl (fun KK hKK => ?_) AllReadyH.nil)
                    · go_simp
                      refine hKK.out _ _ trivial (fun hHeld => ?_)
                      clear hKK KK
                      try simp only [Act.put, List.setIfInBounds_toArray, List.set_cons_zero, List.set_cons_succ]
                      refine wpAnyH_ready (rs := [9]) (by kernel_rfl) (by simp) ?_
                      refine AllReadyH.cons (o := { dst := some 116, op := Op.buildSlice 31 1 #[(0, Operand.tmp 115)], type := 31, pos := "ref.go:270", after := #[{ on := 8, ground := Ground.data }], guard := none }) rfl (fun KK hKK => ?_) AllReadyH.nil
                      go_simp
                      have d3 : (w2.alloc (.cells #[.string (BA nm), .string (BA (textL v))] 68)).cell? ⟨b, 6, none⟩ = some (.slice sa t3.length sc) := ((unhide H2).below ((Below.refl _ w2).alloc (Nat.le_refl _) _)).wk.c6
                      refine hKK.out _ _ trivial (fun hHeld => ?_)
                      clear hKK KK
                      try simp only [Act.put, List.setIfInBounds_toArray, List.set_cons_zero, List.set_cons_succ]
                      refine wpAnyH_ready (rs := [10]) (by kernel_rfl) (by simp) ?_
                      refine AllReadyH.cons (o := { dst := some 117, op := Op.call { callee := Callee.builtin Builtin.append, args := #[Operand.tmp 111, Operand.tmp 116], argTypes := #[31, 31] }, type := 31, pos := "ref.go:270", after := #[{ on := 4, ground := Ground.data }, { on := 9, ground := Ground.data }, { on := 7, ground := Ground.chain }], guard := none }) rfl (fun KK hKK => ?_) AllReadyH.nil
                      refine step_append_lies _ (by rfl) _ _ _ (by rfl) (b + 1) 68 i4 _ 2 32 Tryz.underlying31 h4i h4z h4s h4b rfl (by omega) (.slice sa t3.length sc) t3.length (flatP t3) (by simp [Act.eval]) (ownsRow_below (unhide H2).row ((Below.refl _ w2).alloc (Nat.le_refl _) _)) ⟨w2.heap.size, 0, none⟩ 1 1 [.string (BA nm), .string (BA (textL v))] (by simp [Act.eval]) rfl two_cells two_one (by omega) (by unfold maxLen; omega) (by omega) (by have := (unhide H2).wk.blk.lt; simp; omega) (w2.heap.size + 1) (by simp) ?_
                      intro gg cg w3 hown3 hgrow hat hlt3
                      have hf := set_finD (unhide H2) hvi (by omega) hown3 hgrow
                      have d4 := hf.1
                      have d5 := hf.2.1
                      have HF := hide hf.2.2
                      clear hown3 hgrow hat hf
                      refine hKK.out _ _ trivial (fun hHeld => ?_)
                      clear hKK KK
                      try simp only [Act.put, List.setIfInBounds_toArray, List.set_cons_zero, List.set_cons_succ]
                      refine wpAnyH_take (i := 11) (oi := { dst := some 118, op := Op.nilCheck (Operand.tmp 107), type := 0, pos := "ref.go:270", after := #[{ on := 0, ground := Ground.data }, { on := 0, ground := Ground.phase }, { on := 1, ground := Ground.phase }, { on := 2, ground := Ground.phase }, { on := 3, ground := Ground.phase }, { on := 4, ground := Ground.phase }, { on := 5, ground := Ground.phase }, { on := 6, ground := Ground.phase }, { on := 7, ground := Ground.phase }, { on := 8, ground := Ground.phase }, { on := 9, ground := Ground.phase }, { on := 10, ground := Ground.phase }], guard := none }) (v := ?_) rfl (by kernel_rfl) (by kernel_rfl) (by kernel_rfl) (fun _ _ _ h => h) (Or.inl ⟨by rfl, ?_⟩) (by assumption) ?_
                      rotate_left
                      · intro w hSw; (try dsimp only at hSw); go_simp; (try with_reducible rfl)
                      simp only [Act.put, List.setIfInBounds_toArray, List.set_cons_zero, List.set_cons_succ]
                      refine wpAnyH_take (i := 12) (oi := { dst := some 119, op := Op.fieldAddr 66 (Operand.tmp 118) 6, type := 0, pos := "ref.go:270", after := #[{ on := 11, ground := Ground.data }, { on := 0, ground := Ground.phase }, { on := 1, ground := Ground.phase }, { on := 2, ground := Ground.phase }, { on := 3, ground := Ground.phase }, { on := 4, ground := Ground.phase }, { on := 5, ground := Ground.phase }, { on := 6, ground := Ground.phase }, { on := 7, ground := Ground.phase }, { on := 8, ground := Ground.phase }, { on := 9, ground := Ground.phase }, { on := 10, ground := Ground.phase }], guard := none }) (v := ?_) rfl (by kernel_rfl) (by kernel_rfl) (by kernel_rfl) (fun _ _ _ h => h) (Or.inl ⟨by rfl, ?_⟩) (by assumption) ?_
                      rotate_left
                      · intro w hSw; (try dsimp only at hSw); go_simp; (try with_reducible rfl)
                      simp only [Act.put, List.setIfInBounds_toArray, List.set_cons_zero, List.set_cons_succ]
                      refine wpAnyH_ready (rs := [13]) (by kernel_rfl) (by simp) ?_
                      refine AllReadyH.cons (o := { dst := none, op := Op.store 31 (Operand.tmp 119) (Operand.tmp 117), type := 0, pos := "ref.go:270", after := #[{ on := 12, ground := Ground.data }, { on := 10, ground := Ground.data }, { on := 10, ground := Ground.chain }, { on := 0, ground := Ground.phase }, { on := 1, ground := Ground.phase }, { on := 2, ground := Ground.phase }, { on := 3, ground := Ground.phase }, { on := 4, ground := Ground.phase }, { on := 5, ground := Ground.phase }, { on := 6, ground := Ground.phase }, { on := 7, ground := Ground.phase }, { on := 8, ground := Ground.phase }, { on := 9, ground := Ground.phase }, { on := 10, ground := Ground.phase }], guard := none }) rfl (fun KK hKK => ?_) AllReadyH.nil
                      go_simp
                      refine hKK.out _ _ trivial (fun hHeld => ?_)
                      clear hKK KK hHeld
                      refine wpAnyH_done (by kernel_rfl) ?_ _
                      clear d4 d5
                      go_wp2
                      go_ret
                      have hd := unhide HF
                      obtain ⟨y, rest, hde, hrest, hev⟩ := (unhide HP).is
                      exact out_ok ((unhide HP).bel.trans (((below_of_grown (grown_drew' (World.grownBy.refl wS none))).mono (by omega)).trans (((unhide B2).mono (by show b ≤ wS.heap.size; omega)).trans hd.1))) (unhide HP).le hd.2 hrest hde (unhide HP).num ((hev.set nm).1 (unhide HL))
                    · go_simp
                      have d3 : (w2.alloc (.cells #[.string (BA nm), .string (BA (textL v))] 68)).cell? ⟨b, 6, none⟩ = some (.slice sa t3.length sc) := ((unhide H2).below ((Below.refl _ w2).alloc (Nat.le_refl _) _)).wk.c6
                      refine hKK.out _ _ trivial (fun hHeld => ?_)
                      clear hKK KK
                      try simp only [Act.put, List.setIfInBounds_toArray, List.set_cons_zero, List.set_cons_succ]
                      refine wpAnyH_ready (rs := [4]) (by kernel_rfl) (by simp) ?_
                      refine AllReadyH.cons (o := { dst := some 111, op := Op.load 31 (Operand.tmp 110), type := 31, pos := "ref.go:270", after := #[{ on := 3, ground := Ground.data }], guard := none }) rfl (fun KK hKK => ?_) AllReadyH.nil
                      go_simp
                      refine hKK.out _ _ trivial (fun hHeld => ?_)
                      clear hKK KK
                      try simp only [Act.put, List.setIfInBounds_toArray, List.set_cons_zero, List.set_cons_succ]
                      refine wpAnyH_ready (rs := [10]) (by kernel_rfl) (by simp) ?_
                      refine AllReadyH.cons (o := { dst := some 117, op := Op.call { callee := Callee.builtin Builtin.append, args := #[Operand.tmp 111, Operand.tmp 116], argTypes := #[31, 31] }, type := 31, pos := "ref.go:270", after := #[{ on := 4, ground := Ground.data }, { on := 9, ground := Ground.data }, { on := 7, ground := Ground.chain }], guard := none }) rfl (fun KK hKK => ?_) AllReadyH.nil
                      refine step_append_lies _ (by rfl) _ _ _ (by rfl) (b + 1) 68 i4 _ 2 32 Tryz.underlying31 h4i h4z h4s h4b rfl (by omega) (.slice sa t3.length sc) t3.length (flatP t3) (by simp [Act.eval]) (ownsRow_below (unhide H2).row ((Below.refl _ w2).alloc (Nat.le_refl _) _)) ⟨w2.heap.size, 0, none⟩ 1 1 [.string (BA nm), .string (BA (textL v))] (by simp [Act.eval]) rfl two_cells two_one (by omega) (by unfold maxLen; omega) (by omega) (by have := (unhide H2).wk.blk.lt; simp; omega) (w2.heap.size + 1) (by simp) ?_
                      intro gg cg w3 hown3 hgrow hat hlt3
                      have hf := set_finD (unhide H2) hvi (by omega) hown3 hgrow
                      have d4 := hf.1
                      have d5 := hf.2.1
                      have HF := hide hf.2.2
                      clear hown3 hgrow hat hf
                      refine hKK.out _ _ trivial (fun hHeld => ?_)
                      clear hKK KK
                      try simp only [Act.put, List.setIfInBounds_toArray, List.set_cons_zero, List.set_cons_succ]
                      refine wpAnyH_take (i := 11) (oi := { dst := some 118, op := Op.nilCheck (Operand.tmp 107), type := 0, pos := "ref.go:270", after := #[{ on := 0, ground := Ground.data }, { on := 0, ground := Ground.phase }, { on := 1, ground := Ground.phase }, { on := 2, ground := Ground.phase }, { on := 3, ground := Ground.phase }, { on := 4, ground := Ground.phase }, { on := 5, ground := Ground.phase }, { on := 6, ground := Ground.phase }, { on := 7, ground := Ground.phase }, { on := 8, ground := Ground.phase }, { on := 9, ground := Ground.phase }, { on := 10, ground := Ground.phase }], guard := none }) (v := ?_) rfl (by kernel_rfl) (by kernel_rfl) (by kernel_rfl) (fun _ _ _ h => h) (Or.inl ⟨by rfl, ?_⟩) (by assumption) ?_
                      rotate_left
                      · intro w hSw; (try dsimp only at hSw); go_simp; (try with_reducible rfl)
                      simp only [Act.put, List.setIfInBounds_toArray, List.set_cons_zero, List.set_cons_succ]
                      refine wpAnyH_take (i := 12) (oi := { dst := some 119, op := Op.fieldAddr 66 (Operand.tmp 118) 6, type := 0, pos := "ref.go:270", after := #[{ on := 11, ground := Ground.data }, { on := 0, ground := Ground.phase }, { on := 1, ground := Ground.phase }, { on := 2, ground := Ground.phase }, { on := 3, ground := Ground.phase }, { on := 4, ground := Ground.phase }, { on := 5, ground := Ground.phase }, { on := 6, ground := Ground.phase }, { on := 7, ground := Ground.phase }, { on := 8, ground := Ground.phase }, { on := 9, ground := Ground.phase }, { on := 10, ground := Ground.phase }], guard := none }) (v := ?_) rfl (by kernel_rfl) (by kernel_rfl) (by kernel_rfl) (fun _ _ _ h => h) (Or.inl ⟨by rfl, ?_⟩) (by assumption) ?_
                      rotate_left
                      · intro w hSw; (try dsimp only at hSw); go_simp; (try with_reducible rfl)
                      simp only [Act.put, List.setIfInBounds_toArray, List.set_cons_zero, List.set_cons_succ]
                      refine wpAnyH_ready (rs := [13]) (by kernel_rfl) (by simp) ?_
                      refine AllReadyH.cons (o := { dst := none, op := Op.store 31 (Operand.tmp 119) (Operand.tmp 117), type := 0, pos := "ref.go:270", after := #[{ on := 12, ground := Ground.data }, { on := 10, ground := Ground.data }, { on := 10, ground := Ground.chain }, { on := 0, ground := Ground.phase }, { on := 1, ground := Ground.phase }, { on := 2, ground := Ground.phase }, { on := 3, ground := Ground.phase }, { on := 4, ground := Ground.phase }, { on := 5, ground := Ground.phase }, { on := 6, ground := Ground.phase }, { on := 7, ground := Ground.phase }, { on := 8, ground := Ground.phase }, { on := 9, ground := Ground.phase }, { on := 10, ground := Ground.phase }], guard := none }) rfl (fun KK hKK => ?_) AllReadyH.nil
                      go_simp
                      refine hKK.out _ _ trivial (fun hHeld => ?_)
                      clear hKK KK hHeld
                      refine wpAnyH_done (by kernel_rfl) ?_ _
                      clear d4 d5
                      go_wp2
                      go_ret
                      have hd := unhide HF
                      obtain ⟨y, rest, hde, hrest, hev⟩ := (unhide HP).is
                      exact out_ok ((unhide HP).bel.trans (((below_of_grown (grown_drew' (World.grownBy.refl wS none))).mono (by omega)).trans (((unhide B2).mono (by show b ≤ wS.heap.size; omega)).trans hd.1))) (unhide HP).le hd.2 hrest hde (unhide HP).num ((hev.set nm).1 (unhide HL))
                · rw [hl]
                  have HL := hide hl
                  clear hl
                  go_wp2
                  go_ret
                  have hp := unhide HP
                  cases f3
                  · obtain ⟨y, rest, hde, hrest, hev⟩ := hp.is
                    exact out_ok hp.bel hp.le hp.ws hrest hde hp.num ((hev.set nm).2 (unhide HL))
                  · exact out_bad hp.bel hp.le hp.ws hp.is v hp.num
            · rw [if_neg hc61] at hsd
              have hcI : ((c.toNat : Int) == 61) = false := by
                rw [beq_eq_false_iff_ne]
                intro e
                exact hc61 (UInt8.toNat_inj.1 (show c.toNat = 61 by omega))
              rw [hsd] at hde
              have HDE := hide hde
              have hcP : ¬ (c.toNat : Int) = 61 := by simpa using hcI
              clear hsd hde hdk3 hk3 hc61 hcI
              go_wp2_with fail
              refine (unhide HS0).mono ?_
              rintro en w4 ⟨rfl, hw4⟩
              have hw5 := hw4.symm
              subst hw5
              clear hw4
              go_wp2_with fail
              refine (unhide HS0).mono ?_
              rintro en w4 ⟨rfl, hw4⟩
              have hw5 := hw4.symm
              subst hw5
              clear hw4
              go_wp2_with fail
              refine (unhide HC _ n₀ b s p1 d e va vars sets sv (unhide HT) hN1).mono ?_
              rintro en w8 ⟨b8, n8, rfl, hn8, p8, e8, t8, sv8, hp8, hr8⟩
              have HE8 := hide (And.intro b8 (And.intro hn8 hr8))
              clear b8 hn8 hr8 c0 c1 z1
              go_wp2
              go_ret
              refine ⟨(unhide BT).trans (unhide HE8).1, n8, rfl, (unhide HE8).2.1, p8, e8, t8, sv8, by omega, ?_⟩
              rw [unhide HDE]
              have hr8 := (unhide HE8).2.2
              rw [unhide HD1] at hr8
              exact hr8

end Go.Proofs.YtlbpeknncakfeaaGreatDoor

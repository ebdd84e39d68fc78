/-
  The document's sign, Fields, One, All; the law's pieces.
-/
import Derived.Test.YtpljphbaibncjaaSRef
import Derived.Laws.IdiomStrings
namespace Go.Proofs.Ytpljphbaibncjaa
open Go.RowKit

theorem below_drew0 {B : Nat} {w w1 : World} (h : Below B w.drew w1) : Below B w w1 := ⟨h.os, h.tape, h.output, h.size, h.block⟩
/-- The document's state, as the plain one. -/
def RS (w : World) (B b : Nat) (s : SS) : Prop := RG w B b s.out (ftx s.made) (fqs s.made) s.there s.mark
theorem RS.add {w : World} {B b : Nat} {s : SS} (h : RS w B b s) (t : List UInt8) (q : Bool) (hl : sizS s + t.length ≤ 1000000) :
    Calls Try.prog 24 #[.pointer (some ⟨b, 0, none⟩), .string (BA t), .bool q] w fun e w' => e = .returned (.tuple #[]) ∧ RS w' B b (addS s t q) ∧ RTurn w w' B := by
  unfold sizS at hl
  refine (radd_any (BA t) q w B b s.out _ _ _ _ h (by rw [ftx_len, BA_size]; omega) (by rw [fqs_len, BA_size]; omega)).mono fun e w' ⟨h1, h2, h3⟩ => ⟨h1, ?_, h3⟩
  unfold RS addS
  simp only
  rw [ftx_app, fqs_app, ftx_qt, fqs_qt]
  exact h2
theorem RS.end {w : World} {B b : Nat} {s : SS} (h : RS w B b s) (hl : sizS s ≤ 1000000) :
    Calls Try.prog 23 #[.pointer (some ⟨b, 0, none⟩)] w fun e w' => e = .returned (.tuple #[]) ∧ RS w' B b (endS s) ∧ RTurn w w' B :=
  (rend_any w B b s.out s.made s.there s.mark h (by unfold sizS at hl; omega)).mono fun _ _ ⟨h1, h2, h3⟩ => ⟨h1, h2, h3⟩
theorem hasB_kind (ifs : List UInt8) (c : UInt8) : kindB ifs c = if hasB ifs c then (if c == 32 || c == 9 || c == 10 then 1 else 2) else 0 := rfl
theorem byte_eq (c : UInt8) (n : Nat) (hn : n < 256) : (c == UInt8.ofNat n) = ((c.toNat : Int) == (n : Int)) := by
  rw [Bool.eq_iff_iff, beq_iff_eq, beq_iff_eq]
  constructor
  · rintro rfl
    rw [UInt8.toNat_ofNat']
    omega
  · intro h
    apply UInt8.toNat_inj.1
    rw [UInt8.toNat_ofNat']
    omega
theorem new_byte (w : World) (c : UInt8) : (convert 48 9 (.slice (some ⟨w.heap.size, 0, none⟩) 1 1)).run Try.prog (w.alloc (.cells #[.int .u8 (c.toNat : Int)] 5)) = .ok (.string (BA [c])) (w.alloc (.cells #[.int .u8 (c.toNat : Int)] 5)) :=
  OwnB.text (base := w.heap.size) ⟨rfl, .inr ⟨w.heap.size, 1, _, rfl, Nat.le_refl _, by show (w.heap.push _)[w.heap.size]? = _; simp; rfl, Nat.le_refl _, by unfold maxLen; omega, rfl, rfl⟩⟩

set_option maxRecDepth 20000 in
set_option maxHeartbeats 4000000 in
theorem rsign_any (c : UInt8) (ifs : List UInt8) (w : World) (B b : Nat) (s : SS) (h : RS w B b s) (hl : sizS s + 1 ≤ 1000000) (hi : ifs.length ≤ 100000) :
    Calls Try.prog 25 #[.pointer (some ⟨b, 0, none⟩), .int .u8 (c.toNat : Int), .string (BA ifs)] w fun e w' => e = .returned (.tuple #[]) ∧ RS w' B b (byteS ifs s c) ∧ RTurn w w' B := by
  have HIN := hide (in_any ifs c w (by omega))
  have H := hide h
  have hk := hasB_kind ifs c
  cases hb : hasB ifs c with
  | false =>
    rw [hb] at HIN hk
    have HBY : Hid (byteS ifs s c = addS s [c] false) := hide (by unfold byteS; rw [hk]; rfl)
    have hcv := new_byte w c
    have HA := hide (((show RS (w.alloc (.cells #[.int .u8 (c.toNat : Int)] 5)) B b s from RG.kept h ((Below.refl _ _).alloc (Nat.le_refl _) _))).add [c] false (by simpa using hl))
    have HB0 := hide (RTurn.of_below (B := B) ((Below.refl _ w).alloc (Nat.le_refl _) (.cells #[.int .u8 (c.toNat : Int)] 5)) h.size.2)
    clear hb hk h
    go_enter Try.func25, Try.ntmps25
    go_wp2_with fail
    refine (unhide HIN).mono ?_
    rintro e w1 ⟨rfl, hw1⟩
    rw [show w1 = w from hw1]
    clear hw1
    go_wp2_with fail
    refine (unhide HA).mono ?_
    rintro e w2 ⟨rfl, hR, hT⟩
    have HR := hide (And.intro hR ((unhide HB0).trans hT))
    clear hR hT
    go_wp2
    first | refine bodyPost_end (res0 rfl _ _) rfl ?_ | refine bodyPost_ret (res0 rfl _ _) rfl ?_
    exact ⟨rfl, by rw [unhide HBY]; exact (unhide HR).1, (unhide HR).2⟩
  | true =>
    rw [hb] at HIN hk
    cases hsf : (c == 32 || c == 9 || c == 10) with
    | true =>
      rw [hsf] at hk
      have HBY : Hid (byteS ifs s c = softS s) := hide (by unfold byteS; rw [hk]; rfl)
      obtain ⟨th, hth⟩ : ∃ b, s.there = b := ⟨_, rfl⟩
      have cf := h.flags.1
      rw [hth] at cf
      have HTH := hide hth
      have HE := hide (h.end (by omega))
      have HSF : Hid (((c.toNat : Int) == 32) = true ∨ (((c.toNat : Int) == 32) = false ∧ ((c.toNat : Int) == 9) = true) ∨ (((c.toNat : Int) == 32) = false ∧ ((c.toNat : Int) == 9) = false ∧ ((c.toNat : Int) == 10) = true)) := hide (by
        rw [show (c == 32) = ((c.toNat : Int) == ((32 : Nat) : Int)) from byte_eq c 32 (by omega), show (c == 9) = ((c.toNat : Int) == ((9 : Nat) : Int)) from byte_eq c 9 (by omega), show (c == 10) = ((c.toNat : Int) == ((10 : Nat) : Int)) from byte_eq c 10 (by omega)] at hsf
        show (((c.toNat : Int) == ((32 : Nat) : Int)) = true ∨ (((c.toNat : Int) == ((32 : Nat) : Int)) = false ∧ ((c.toNat : Int) == ((9 : Nat) : Int)) = true) ∨ (((c.toNat : Int) == ((32 : Nat) : Int)) = false ∧ ((c.toNat : Int) == ((9 : Nat) : Int)) = false ∧ ((c.toNat : Int) == ((10 : Nat) : Int)) = true))
        revert hsf
        cases ((c.toNat : Int) == ((32 : Nat) : Int)) <;> cases ((c.toNat : Int) == ((9 : Nat) : Int)) <;> cases ((c.toNat : Int) == ((10 : Nat) : Int)) <;> simp)
      clear hb hk h hsf hth
      cases th with
      | true =>
        rcases unhide HSF with h1 | ⟨h0, h1⟩ | ⟨h0, h1, h2⟩
        all_goals
          go_enter Try.func25, Try.ntmps25
          go_wp2_with fail
          refine (unhide HIN).mono ?_
          rintro e w1 ⟨rfl, hw1⟩
          rw [show w1 = w from hw1]
          clear hw1
          go_wp2_with fail
          refine (unhide HE).mono ?_
          rintro e w2 ⟨rfl, hR, hT⟩
          have e4 := (hR.flags).2.2.1
          have y4 := (hR.flags).2.2.2
          have HM := hide (And.intro (RG.mark hR true).1 (hT.trans (RG.mark hR true).2))
          clear hR hT
          go_wp2
          first | refine bodyPost_end (res0 rfl _ _) rfl ?_ | refine bodyPost_ret (res0 rfl _ _) rfl ?_
          exact ⟨rfl, by rw [unhide HBY, show softS s = onS (endS s) from if_pos (unhide HTH)]; exact (unhide HM).1, (unhide HM).2⟩
      | false =>
        rcases unhide HSF with h1 | ⟨h0, h1⟩ | ⟨h0, h1, h2⟩
        all_goals
          go_enter Try.func25, Try.ntmps25
          go_wp2_with fail
          refine (unhide HIN).mono ?_
          rintro e w1 ⟨rfl, hw1⟩
          rw [show w1 = w from hw1]
          clear hw1
          go_wp2
          first | refine bodyPost_end (res0 rfl _ _) rfl ?_ | refine bodyPost_ret (res0 rfl _ _) rfl ?_
          exact ⟨rfl, by rw [unhide HBY, show softS s = s from if_neg (by rw [unhide HTH]; decide)]; exact unhide H, RTurn.refl _ _⟩
    | false =>
      rw [hsf] at hk
      have HBY : Hid (byteS ifs s c = hardS s) := hide (by unfold byteS; rw [hk]; rfl)
      obtain ⟨mk, hmk⟩ : ∃ b, s.mark = b := ⟨_, rfl⟩
      have cm := h.flags.2.2.1
      have fm := h.flags.2.2.2
      rw [hmk] at cm
      have HMK := hide hmk
      have HE := hide (h.end (by omega))
      obtain ⟨h0, h1, h2⟩ : ((c.toNat : Int) == 32) = false ∧ ((c.toNat : Int) == 9) = false ∧ ((c.toNat : Int) == 10) = false := by
        rw [show (c == 32) = ((c.toNat : Int) == ((32 : Nat) : Int)) from byte_eq c 32 (by omega), show (c == 9) = ((c.toNat : Int) == ((9 : Nat) : Int)) from byte_eq c 9 (by omega), show (c == 10) = ((c.toNat : Int) == ((10 : Nat) : Int)) from byte_eq c 10 (by omega)] at hsf
        show ((c.toNat : Int) == ((32 : Nat) : Int)) = false ∧ ((c.toNat : Int) == ((9 : Nat) : Int)) = false ∧ ((c.toNat : Int) == ((10 : Nat) : Int)) = false
        revert hsf
        cases ((c.toNat : Int) == ((32 : Nat) : Int)) <;> cases ((c.toNat : Int) == ((9 : Nat) : Int)) <;> cases ((c.toNat : Int) == ((10 : Nat) : Int)) <;> simp
      have HM := hide (RG.mark h false)
      clear hb hk h hsf hmk
      cases mk with
      | true =>
        go_enter Try.func25, Try.ntmps25
        go_wp2_with fail
        refine (unhide HIN).mono ?_
        rintro e w1 ⟨rfl, hw1⟩
        rw [show w1 = w from hw1]
        clear hw1
        go_wp2
        first | refine bodyPost_end (res0 rfl _ _) rfl ?_ | refine bodyPost_ret (res0 rfl _ _) rfl ?_
        exact ⟨rfl, by rw [unhide HBY, show hardS s = offS s from if_pos (unhide HMK)]; exact (unhide HM).1, (unhide HM).2⟩
      | false =>
        go_enter Try.func25, Try.ntmps25
        go_wp2_with fail
        refine (unhide HIN).mono ?_
        rintro e w1 ⟨rfl, hw1⟩
        rw [show w1 = w from hw1]
        clear hw1
        go_wp2_with fail
        refine (unhide HE).mono ?_
        rintro e w2 ⟨rfl, hR, hT⟩
        have HR := hide (And.intro hR hT)
        clear hR hT
        go_wp2
        first | refine bodyPost_end (res0 rfl _ _) rfl ?_ | refine bodyPost_ret (res0 rfl _ _) rfl ?_
        exact ⟨rfl, by rw [unhide HBY, show hardS s = offS (endS s) from if_neg (by rw [unhide HMK]; decide), show offS (endS s) = endS s by unfold offS endS; simp only; rw [unhide HMK]]; exact (unhide HR).1, (unhide HR).2⟩

theorem und_rpieces : Try.prog.underlying 30 = some (.slice 58) := by kernel_rfl
theorem info_rpiece : (Try.prog.info? 58).map (fun i => (i.zero, i.size, i.bytes)) = some (some (.agg #[.string ⟨#[]⟩, .bool false, .bool false, .bool false]), 4, 24) := by kernel_rfl
def ccs (t : Pc) : List Value := [.string (BA t.text), .bool t.q, .bool t.s, .bool t.b]
def flatC (l : List Pc) : List Value := l.flatMap ccs
theorem flatC_snoc (l : List Pc) (t : Pc) : flatC (l ++ [t]) = flatC l ++ ccs t := by simp [flatC]
theorem flatC_get : ∀ (l : List Pc) (i j : Nat) (x : Pc), l[i]? = some x → j < 4 → (flatC l)[i * 4 + j]? = (ccs x)[j]?
  | y :: r, 0, j, x, h, hj => by
    simp at h
    subst h
    show (ccs y ++ flatC r)[0 * 4 + j]? = _
    rw [List.getElem?_append_left (by simp [ccs]; omega)]
    simp
  | y :: r, i + 1, j, x, h, hj => by
    show (ccs y ++ flatC r)[(i + 1) * 4 + j]? = _
    rw [List.getElem?_append_right (by simp [ccs]; omega), show (i + 1) * 4 + j - (ccs y).length = i * 4 + j by simp [ccs]; omega]
    exact flatC_get r i j x (by simpa using h) hj
theorem prow_of {w : World} {B e n : Nat} {v : Value} {l : List Pc} (h : w.ownsRow B e 4 v n (flatC l)) (hn : n = l.length) : PRow w v l := by
  subst hn
  obtain ⟨_, ⟨hv, h0⟩ | ⟨g, cap, cur, hv, hb, hg, _, _, _, htk⟩⟩ := h
  · refine ⟨none, 0, by rw [hv, h0], fun i x hi => ?_⟩
    have := (List.getElem?_eq_some_iff.1 hi).1
    omega
  · refine ⟨_, cap, hv, fun i x hi => ?_⟩
    have hil := (List.getElem?_eq_some_iff.1 hi).1
    have hc : ∀ j u, (ccs x)[j]? = some u → j < 4 → w.cell? ⟨g, 0 + i * 4 + j, none⟩ = some u := fun j u hu hj => by
      have hp := flatC_get l i j x hi hj
      rw [hu, ← htk, List.getElem?_take, if_pos (by omega)] at hp
      rw [Nat.zero_add]
      exact Blk.cell (show Blk w g e cur from hg) (i * 4 + j) (by simpa using hp)
    exact ⟨g, 0, rfl, (Array.getElem?_eq_some_iff.1 hg).1, hc 0 _ rfl (by omega), hc 1 _ rfl (by omega), hc 2 _ rfl (by omega), hc 3 _ rfl (by omega)⟩
theorem four_cells {w : World} {x y z u : Value} {t : TypeId} : ∀ j v, [x, y, z, u][j]? = some v → ((w.alloc (.cells #[x, y, z, u] t)).drew).cell? ((⟨w.heap.size, 0, none⟩ : Addr).add j) = some v := by
  intro j v hj
  rw [add_at]
  exact Blk.cell (show Blk (w.alloc (.cells #[x, y, z, u] t)).drew w.heap.size t _ from Blk.new w t #[x, y, z, u]) j (by simpa using hj)
theorem four_is {x : ByteArray} {a b c : Bool} : ∀ u ∈ [Value.string x, .bool a, .bool b, .bool c], u.oneCell' = true := by
  intro u hu
  simp at hu
  rcases hu with rfl | rfl | rfl | rfl <;> rfl
set_option maxRecDepth 100000 in
set_option maxHeartbeats 4000000 in
theorem pieces_any (v : Value) (ts : List Pc) (w : World) (h : PRow w v ts) (hl : ts.length ≤ 1000) : Calls Try.prog 13 #[v] w fun e w' => ∃ v', e = .returned v' ∧ Below w.heap.size w w' ∧ PRow w' v' ts := by
  obtain ⟨iT, hiT, hzT0, hzT1, hzT2⟩ := info_of info_rpiece
  obtain ⟨ad, cap, rfl, hsh⟩ := h
  obtain ⟨n, hn⟩ : ∃ n, n = ts.length := ⟨_, rfl⟩
  rw [← hn]
  have hnl : n ≤ 1000 := by omega
  have HSH := hide hsh
  have HN := hide hn
  clear hsh hn hl
  go_enter Try.func13, Try.ntmps13
  go_wp2_with fail
  go_loopw [3, 4] (fun v' i wr => ∃ k : Nat, i = .int .i64 (k : Int) ∧ k ≤ n ∧ Hid (Below w.heap.size w wr ∧ wr.ownsRow w.heap.size 58 4 v' k (flatC (ts.take k)))) (fun _ i _ => n - (intOf i).toNat)
  case atStart => exact ⟨0, rfl, Nat.zero_le _, hide ⟨Below.refl _ _, World.ownsRow_nil _ _ _ _⟩⟩
  case round =>
    obtain ⟨k, rfl, hk, HH⟩ := hrel
    have HB := hide (unhide HH).1
    have HO := hide (unhide HH).2
    clear HH
    by_cases hlt : k < n
    · have hkt : k < ts.length := by have := unhide HN; omega
      obtain ⟨t, ht⟩ : ∃ t, ts[k]? = some t := ⟨_, List.getElem?_eq_getElem hkt⟩
      obtain ⟨g, o, rfl, hg, hc0, hc1, hc2, hc3⟩ := unhide HSH k t ht
      have hw1 : ∀ j, wr.cell? ⟨g, j, none⟩ = w.cell? ⟨g, j, none⟩ := fun j => World.cell?_of_block ((unhide HB).block g hg)
      have HZ : Hid (wr.cell? ⟨g, o + k * 4, none⟩ = some (.string (BA t.text)) ∧ wr.cell? ⟨g, o + k * 4 + 1, none⟩ = some (.bool t.q) ∧ wr.cell? ⟨g, o + k * 4 + 2, none⟩ = some (.bool t.s) ∧ wr.cell? ⟨g, o + k * 4 + 3, none⟩ = some (.bool t.b)) := hide ⟨(hw1 _).trans hc0, (hw1 _).trans hc1, (hw1 _).trans hc2, (hw1 _).trans hc3⟩
      have hlt1 : (k : Int) < (n : Int) := by omega
      have hk0 : (0 : Int) ≤ (k : Int) := by omega
      have HT := hide ht
      have HG := hide hg
      clear hkt ht hg hc0 hc1 hc2 hc3 hw1
      go_wp2_with fail
      refine wp_region_held_drew (S := fun w' => w'.cell? ⟨g, o + k * 4, none⟩ = some (.string (BA t.text)) ∧ w'.cell? ⟨g, o + k * 4 + 1, none⟩ = some (.bool t.q) ∧ w'.cell? ⟨g, o + k * 4 + 2, none⟩ = some (.bool t.s) ∧ w'.cell? ⟨g, o + k * 4 + 3, none⟩ = some (.bool t.b)) (by kernel_rfl) (by exact unhide HZ) (fun hHeld => ?_)
      refine wpAnyH_take (i := 0) (oi := { dst := some 11, op := Op.move (Operand.tmp 3), type := 30, pos := "law.go:21", after := #[], guard := none }) (v := ?_) rfl (by kernel_rfl) (by kernel_rfl) (by kernel_rfl) (fun _ _ _ h => h) (Or.inl ⟨by rfl, ?_⟩) (by assumption) ?_
      rotate_left
      · intro w hSw; obtain ⟨s0, s1, s2, s3⟩ := hSw; go_simp; (try with_reducible rfl)
      simp only [Act.put, List.setIfInBounds_toArray, List.set_cons_zero, List.set_cons_succ]
      refine wpAnyH_take (i := 1) (oi := { dst := some 12, op := Op.move (Operand.tmp 0), type := 22, pos := "law.go:21", after := #[], guard := none }) (v := ?_) rfl (by kernel_rfl) (by kernel_rfl) (by kernel_rfl) (fun _ _ _ h => h) (Or.inl ⟨by rfl, ?_⟩) (by assumption) ?_
      rotate_left
      · intro w hSw; obtain ⟨s0, s1, s2, s3⟩ := hSw; go_simp; (try with_reducible rfl)
      simp only [Act.put, List.setIfInBounds_toArray, List.set_cons_zero, List.set_cons_succ]
      refine wpAnyH_take (i := 2) (oi := { dst := some 13, op := Op.move (Operand.tmp 4), type := 3, pos := "law.go:21", after := #[], guard := none }) (v := ?_) rfl (by kernel_rfl) (by kernel_rfl) (by kernel_rfl) (fun _ _ _ h => h) (Or.inl ⟨by rfl, ?_⟩) (by assumption) ?_
      rotate_left
      · intro w hSw; obtain ⟨s0, s1, s2, s3⟩ := hSw; go_simp; (try with_reducible rfl)
      simp only [Act.put, List.setIfInBounds_toArray, List.set_cons_zero, List.set_cons_succ]
      refine wpAnyH_take (i := 3) (oi := { dst := some 14, op := Op.indexAddr 22 (Operand.tmp 12) (Operand.tmp 13), type := 0, pos := "law.go:21", after := #[{ on := 1, ground := Ground.data }, { on := 2, ground := Ground.data }], guard := none }) (v := ?_) rfl (by kernel_rfl) (by kernel_rfl) (by kernel_rfl) (fun _ _ _ h => h) (Or.inl ⟨by rfl, ?_⟩) (by assumption) ?_
      rotate_left
      · intro w hSw; obtain ⟨s0, s1, s2, s3⟩ := hSw; go_simp; (try with_reducible rfl)
      simp only [Act.put, List.setIfInBounds_toArray, List.set_cons_zero, List.set_cons_succ]
      refine wpAnyH_take (i := 4) (oi := { dst := some 15, op := Op.fieldAddr 42 (Operand.tmp 14) 0, type := 0, pos := "law.go:21", after := #[{ on := 3, ground := Ground.data }], guard := none }) (v := ?_) rfl (by kernel_rfl) (by kernel_rfl) (by kernel_rfl) (fun _ _ _ h => h) (Or.inl ⟨by rfl, ?_⟩) (by assumption) ?_
      rotate_left
      · intro w hSw; obtain ⟨s0, s1, s2, s3⟩ := hSw; go_simp; (try with_reducible rfl)
      simp only [Act.put, List.setIfInBounds_toArray, List.set_cons_zero, List.set_cons_succ]
      refine wpAnyH_take (i := 5) (oi := { dst := some 16, op := Op.load 9 (Operand.tmp 15), type := 9, pos := "law.go:21", after := #[{ on := 4, ground := Ground.data }], guard := none }) (v := ?_) rfl (by kernel_rfl) (by kernel_rfl) (by kernel_rfl) (fun _ _ _ h => h) (Or.inl ⟨by rfl, ?_⟩) (by assumption) ?_
      rotate_left
      · intro w hSw; obtain ⟨s0, s1, s2, s3⟩ := hSw; go_simp; (try with_reducible rfl)
      simp only [Act.put, List.setIfInBounds_toArray, List.set_cons_zero, List.set_cons_succ]
      refine wpAnyH_take (i := 6) (oi := { dst := some 17, op := Op.move (Operand.tmp 0), type := 22, pos := "law.go:21", after := #[], guard := none }) (v := ?_) rfl (by kernel_rfl) (by kernel_rfl) (by kernel_rfl) (fun _ _ _ h => h) (Or.inl ⟨by rfl, ?_⟩) (by assumption) ?_
      rotate_left
      · intro w hSw; obtain ⟨s0, s1, s2, s3⟩ := hSw; go_simp; (try with_reducible rfl)
      simp only [Act.put, List.setIfInBounds_toArray, List.set_cons_zero, List.set_cons_succ]
      refine wpAnyH_take (i := 7) (oi := { dst := some 18, op := Op.move (Operand.tmp 4), type := 3, pos := "law.go:21", after := #[], guard := none }) (v := ?_) rfl (by kernel_rfl) (by kernel_rfl) (by kernel_rfl) (fun _ _ _ h => h) (Or.inl ⟨by rfl, ?_⟩) (by assumption) ?_
      rotate_left
      · intro w hSw; obtain ⟨s0, s1, s2, s3⟩ := hSw; go_simp; (try with_reducible rfl)
      simp only [Act.put, List.setIfInBounds_toArray, List.set_cons_zero, List.set_cons_succ]
      refine wpAnyH_take (i := 8) (oi := { dst := some 19, op := Op.indexAddr 22 (Operand.tmp 17) (Operand.tmp 18), type := 0, pos := "law.go:21", after := #[{ on := 6, ground := Ground.data }, { on := 7, ground := Ground.data }], guard := none }) (v := ?_) rfl (by kernel_rfl) (by kernel_rfl) (by kernel_rfl) (fun _ _ _ h => h) (Or.inl ⟨by rfl, ?_⟩) (by assumption) ?_
      rotate_left
      · intro w hSw; obtain ⟨s0, s1, s2, s3⟩ := hSw; go_simp; (try with_reducible rfl)
      simp only [Act.put, List.setIfInBounds_toArray, List.set_cons_zero, List.set_cons_succ]
      refine wpAnyH_take (i := 9) (oi := { dst := some 20, op := Op.fieldAddr 42 (Operand.tmp 19) 1, type := 0, pos := "law.go:21", after := #[{ on := 8, ground := Ground.data }], guard := none }) (v := ?_) rfl (by kernel_rfl) (by kernel_rfl) (by kernel_rfl) (fun _ _ _ h => h) (Or.inl ⟨by rfl, ?_⟩) (by assumption) ?_
      rotate_left
      · intro w hSw; obtain ⟨s0, s1, s2, s3⟩ := hSw; go_simp; (try with_reducible rfl)
      simp only [Act.put, List.setIfInBounds_toArray, List.set_cons_zero, List.set_cons_succ]
      refine wpAnyH_take (i := 10) (oi := { dst := some 21, op := Op.load 4 (Operand.tmp 20), type := 4, pos := "law.go:21", after := #[{ on := 9, ground := Ground.data }], guard := none }) (v := ?_) rfl (by kernel_rfl) (by kernel_rfl) (by kernel_rfl) (fun _ _ _ h => h) (Or.inl ⟨by rfl, ?_⟩) (by assumption) ?_
      rotate_left
      · intro w hSw; obtain ⟨s0, s1, s2, s3⟩ := hSw; go_simp; (try with_reducible rfl)
      simp only [Act.put, List.setIfInBounds_toArray, List.set_cons_zero, List.set_cons_succ]
      refine wpAnyH_take (i := 11) (oi := { dst := some 22, op := Op.move (Operand.tmp 0), type := 22, pos := "law.go:21", after := #[], guard := none }) (v := ?_) rfl (by kernel_rfl) (by kernel_rfl) (by kernel_rfl) (fun _ _ _ h => h) (Or.inl ⟨by rfl, ?_⟩) (by assumption) ?_
      rotate_left
      · intro w hSw; obtain ⟨s0, s1, s2, s3⟩ := hSw; go_simp; (try with_reducible rfl)
      simp only [Act.put, List.setIfInBounds_toArray, List.set_cons_zero, List.set_cons_succ]
      refine wpAnyH_take (i := 12) (oi := { dst := some 23, op := Op.move (Operand.tmp 4), type := 3, pos := "law.go:21", after := #[], guard := none }) (v := ?_) rfl (by kernel_rfl) (by kernel_rfl) (by kernel_rfl) (fun _ _ _ h => h) (Or.inl ⟨by rfl, ?_⟩) (by assumption) ?_
      rotate_left
      · intro w hSw; obtain ⟨s0, s1, s2, s3⟩ := hSw; go_simp; (try with_reducible rfl)
      simp only [Act.put, List.setIfInBounds_toArray, List.set_cons_zero, List.set_cons_succ]
      refine wpAnyH_take (i := 13) (oi := { dst := some 24, op := Op.indexAddr 22 (Operand.tmp 22) (Operand.tmp 23), type := 0, pos := "law.go:21", after := #[{ on := 11, ground := Ground.data }, { on := 12, ground := Ground.data }], guard := none }) (v := ?_) rfl (by kernel_rfl) (by kernel_rfl) (by kernel_rfl) (fun _ _ _ h => h) (Or.inl ⟨by rfl, ?_⟩) (by assumption) ?_
      rotate_left
      · intro w hSw; obtain ⟨s0, s1, s2, s3⟩ := hSw; go_simp; (try with_reducible rfl)
      simp only [Act.put, List.setIfInBounds_toArray, List.set_cons_zero, List.set_cons_succ]
      refine wpAnyH_take (i := 14) (oi := { dst := some 25, op := Op.fieldAddr 42 (Operand.tmp 24) 2, type := 0, pos := "law.go:21", after := #[{ on := 13, ground := Ground.data }], guard := none }) (v := ?_) rfl (by kernel_rfl) (by kernel_rfl) (by kernel_rfl) (fun _ _ _ h => h) (Or.inl ⟨by rfl, ?_⟩) (by assumption) ?_
      rotate_left
      · intro w hSw; obtain ⟨s0, s1, s2, s3⟩ := hSw; go_simp; (try with_reducible rfl)
      simp only [Act.put, List.setIfInBounds_toArray, List.set_cons_zero, List.set_cons_succ]
      refine wpAnyH_take (i := 15) (oi := { dst := some 26, op := Op.load 4 (Operand.tmp 25), type := 4, pos := "law.go:21", after := #[{ on := 14, ground := Ground.data }], guard := none }) (v := ?_) rfl (by kernel_rfl) (by kernel_rfl) (by kernel_rfl) (fun _ _ _ h => h) (Or.inl ⟨by rfl, ?_⟩) (by assumption) ?_
      rotate_left
      · intro w hSw; obtain ⟨s0, s1, s2, s3⟩ := hSw; go_simp; (try with_reducible rfl)
      simp only [Act.put, List.setIfInBounds_toArray, List.set_cons_zero, List.set_cons_succ]
      refine wpAnyH_take (i := 16) (oi := { dst := some 27, op := Op.move (Operand.tmp 0), type := 22, pos := "law.go:21", after := #[], guard := none }) (v := ?_) rfl (by kernel_rfl) (by kernel_rfl) (by kernel_rfl) (fun _ _ _ h => h) (Or.inl ⟨by rfl, ?_⟩) (by assumption) ?_
      rotate_left
      · intro w hSw; obtain ⟨s0, s1, s2, s3⟩ := hSw; go_simp; (try with_reducible rfl)
      simp only [Act.put, List.setIfInBounds_toArray, List.set_cons_zero, List.set_cons_succ]
      refine wpAnyH_take (i := 17) (oi := { dst := some 28, op := Op.move (Operand.tmp 4), type := 3, pos := "law.go:21", after := #[], guard := none }) (v := ?_) rfl (by kernel_rfl) (by kernel_rfl) (by kernel_rfl) (fun _ _ _ h => h) (Or.inl ⟨by rfl, ?_⟩) (by assumption) ?_
      rotate_left
      · intro w hSw; obtain ⟨s0, s1, s2, s3⟩ := hSw; go_simp; (try with_reducible rfl)
      simp only [Act.put, List.setIfInBounds_toArray, List.set_cons_zero, List.set_cons_succ]
      refine wpAnyH_take (i := 18) (oi := { dst := some 29, op := Op.indexAddr 22 (Operand.tmp 27) (Operand.tmp 28), type := 0, pos := "law.go:21", after := #[{ on := 16, ground := Ground.data }, { on := 17, ground := Ground.data }], guard := none }) (v := ?_) rfl (by kernel_rfl) (by kernel_rfl) (by kernel_rfl) (fun _ _ _ h => h) (Or.inl ⟨by rfl, ?_⟩) (by assumption) ?_
      rotate_left
      · intro w hSw; obtain ⟨s0, s1, s2, s3⟩ := hSw; go_simp; (try with_reducible rfl)
      simp only [Act.put, List.setIfInBounds_toArray, List.set_cons_zero, List.set_cons_succ]
      refine wpAnyH_take (i := 19) (oi := { dst := some 30, op := Op.fieldAddr 42 (Operand.tmp 29) 3, type := 0, pos := "law.go:21", after := #[{ on := 18, ground := Ground.data }], guard := none }) (v := ?_) rfl (by kernel_rfl) (by kernel_rfl) (by kernel_rfl) (fun _ _ _ h => h) (Or.inl ⟨by rfl, ?_⟩) (by assumption) ?_
      rotate_left
      · intro w hSw; obtain ⟨s0, s1, s2, s3⟩ := hSw; go_simp; (try with_reducible rfl)
      simp only [Act.put, List.setIfInBounds_toArray, List.set_cons_zero, List.set_cons_succ]
      refine wpAnyH_take (i := 20) (oi := { dst := some 31, op := Op.load 4 (Operand.tmp 30), type := 4, pos := "law.go:21", after := #[{ on := 19, ground := Ground.data }], guard := none }) (v := ?_) rfl (by kernel_rfl) (by kernel_rfl) (by kernel_rfl) (fun _ _ _ h => h) (Or.inl ⟨by rfl, ?_⟩) (by assumption) ?_
      rotate_left
      · intro w hSw; obtain ⟨s0, s1, s2, s3⟩ := hSw; go_simp; (try with_reducible rfl)
      simp only [Act.put, List.setIfInBounds_toArray, List.set_cons_zero, List.set_cons_succ]
      refine wpAnyH_take (i := 21) (oi := { dst := some 32, op := Op.build 58 #[(0, Operand.tmp 16), (1, Operand.tmp 21), (2, Operand.tmp 26), (3, Operand.tmp 31)], type := 58, pos := "law.go:21", after := #[{ on := 5, ground := Ground.data }, { on := 10, ground := Ground.data }, { on := 15, ground := Ground.data }, { on := 20, ground := Ground.data }], guard := none }) (v := ?_) rfl (by kernel_rfl) (by kernel_rfl) (by kernel_rfl) (fun _ _ _ h => h) (Or.inl ⟨by rfl, ?_⟩) (by assumption) ?_
      rotate_left
      · intro w hSw; obtain ⟨s0, s1, s2, s3⟩ := hSw; go_simp; (try with_reducible rfl)
      simp only [Act.put, List.setIfInBounds_toArray, List.set_cons_zero, List.set_cons_succ]
      refine wpAnyH_ready (rs := [22]) (by kernel_rfl) (by simp) ?_
      refine AllReadyH.cons (o := { dst := some 33, op := Op.buildSlice 30 1 #[(0, Operand.tmp 32)], type := 30, pos := "law.go:21", after := #[{ on := 21, ground := Ground.data }], guard := none }) rfl (fun KK hKK => ?_) AllReadyH.nil
      go_simp
      have z1 : (wr.alloc (.cells #[.string (BA t.text), .bool t.q, .bool t.s, .bool t.b] 58)).cell? ⟨g, o + k * 4, none⟩ = some (.string (BA t.text)) ∧ (wr.alloc (.cells #[.string (BA t.text), .bool t.q, .bool t.s, .bool t.b] 58)).cell? ⟨g, o + k * 4 + 1, none⟩ = some (.bool t.q) ∧ (wr.alloc (.cells #[.string (BA t.text), .bool t.q, .bool t.s, .bool t.b] 58)).cell? ⟨g, o + k * 4 + 2, none⟩ = some (.bool t.s) ∧ (wr.alloc (.cells #[.string (BA t.text), .bool t.q, .bool t.s, .bool t.b] 58)).cell? ⟨g, o + k * 4 + 3, none⟩ = some (.bool t.b) := ⟨cell_alloc (unhide HZ).1 _, cell_alloc (unhide HZ).2.1 _, cell_alloc (unhide HZ).2.2.1 _, cell_alloc (unhide HZ).2.2.2 _⟩
      refine hKK.out _ _ (by exact z1) (fun hHeld => ?_)
      clear hKK KK
      try simp only [Act.put, List.setIfInBounds_toArray, List.set_cons_zero, List.set_cons_succ]
      refine wpAnyH_ready (rs := [23]) (by kernel_rfl) (by simp) ?_
      refine AllReadyH.cons (o := { dst := some 34, op := Op.call { callee := Callee.builtin Builtin.append, args := #[Operand.tmp 11, Operand.tmp 33], argTypes := #[30, 30] }, type := 30, pos := "law.go:21", after := #[{ on := 0, ground := Ground.data }, { on := 22, ground := Ground.data }], guard := none }) rfl (fun KK hKK => ?_) AllReadyH.nil
      refine step_append_lies _ (by rfl) _ _ _ (by rfl) w.heap.size 58 iT _ 4 24 und_rpieces hiT hzT0 hzT1 hzT2 rfl (by decide) u3 k (flatC (ts.take k)) (by simp [Act.eval]) (own_drew (World.ownsRow.alloc (unhide HO) _)) ⟨wr.heap.size, 0, none⟩ 1 1 [.string (BA t.text), .bool t.q, .bool t.s, .bool t.b] (by simp [Act.eval]) rfl (fun j u hu => four_cells j u hu) four_is (by decide) (by unfold maxLen; omega) (by omega) (by have := (unhide HB).size; simp; omega) (wr.heap.size + 1) (by simp) ?_
      intro gg cg w3 hown3 hgrow _ _
      have hne : some g ≠ u3.ownBlock := fun e => by have h1 := (World.ownsRow.lt (unhide HO) g e.symm).1; have h2 := unhide HG; omega
      have z2 : w3.cell? ⟨g, o + k * 4, none⟩ = some (.string (BA t.text)) ∧ w3.cell? ⟨g, o + k * 4 + 1, none⟩ = some (.bool t.q) ∧ w3.cell? ⟨g, o + k * 4 + 2, none⟩ = some (.bool t.s) ∧ w3.cell? ⟨g, o + k * 4 + 3, none⟩ = some (.bool t.b) := ⟨hgrow.cell z1.1 hne, hgrow.cell z1.2.1 hne, hgrow.cell z1.2.2.1 hne, hgrow.cell z1.2.2.2 hne⟩
      have HW3 : Hid (w3.ownsRow w.heap.size 58 4 (.slice (some ⟨gg, 0, none⟩) (k + 1) cg) (k + 1) (flatC (ts.take (k + 1)))) := hide (by rw [List.take_add_one, unhide HT]; show World.ownsRow _ _ _ _ _ _ (flatC (ts.take k ++ [t])); rw [flatC_snoc]; exact hown3)
      have HB3 : Hid (Below w.heap.size w w3) := hide (((unhide HB).alloc (unhide HB).size _).drew.grown hgrow (by have := (unhide HB).size; simp; omega) (fun j hj => (World.ownsRow.lt (unhide HO) j hj).1))
      clear hown3 hgrow hne
      refine hKK.out _ _ (by exact z2) (fun hHeld => ?_)
      clear hKK KK
      try simp only [Act.put, List.setIfInBounds_toArray, List.set_cons_zero, List.set_cons_succ]
      refine wpAnyH_take (i := 24) (oi := { dst := some 3, op := Op.assign (Operand.tmp 34), type := 30, pos := "law.go:21", after := #[{ on := 23, ground := Ground.data }, { on := 23, ground := Ground.chain }, { on := 0, ground := Ground.phase }, { on := 1, ground := Ground.phase }, { on := 2, ground := Ground.phase }, { on := 3, ground := Ground.phase }, { on := 4, ground := Ground.phase }, { on := 5, ground := Ground.phase }, { on := 6, ground := Ground.phase }, { on := 7, ground := Ground.phase }, { on := 8, ground := Ground.phase }, { on := 9, ground := Ground.phase }, { on := 10, ground := Ground.phase }, { on := 11, ground := Ground.phase }, { on := 12, ground := Ground.phase }, { on := 13, ground := Ground.phase }, { on := 14, ground := Ground.phase }, { on := 15, ground := Ground.phase }, { on := 16, ground := Ground.phase }, { on := 17, ground := Ground.phase }, { on := 18, ground := Ground.phase }, { on := 19, ground := Ground.phase }, { on := 20, ground := Ground.phase }, { on := 21, ground := Ground.phase }, { on := 22, ground := Ground.phase }, { on := 23, ground := Ground.phase }], guard := none }) (v := ?_) rfl (by kernel_rfl) (by kernel_rfl) (by kernel_rfl) (fun _ _ _ h => h) (Or.inl ⟨by rfl, ?_⟩) (by assumption) ?_
      rotate_left
      · intro w hSw; obtain ⟨s0, s1, s2, s3⟩ := hSw; go_simp; (try with_reducible rfl)
      simp only [Act.put, List.setIfInBounds_toArray, List.set_cons_zero, List.set_cons_succ]
      clear hHeld
      refine wpAnyH_done (by kernel_rfl) ?_ _
      clear z1 z2
      go_wp2
      go_roundw
      case rel => exact ⟨k + 1, by go_num, by omega, hide ⟨unhide HB3, unhide HW3⟩⟩
      case measure => simp [intOf]; omega
    · have hlt1 : ¬ (k : Int) < (n : Int) := by omega
      have HTR : Hid (PRow wr u3 ts) := hide (by
        have h1 := unhide HO
        rw [List.take_of_length_le (by have := unhide HN; omega)] at h1
        exact prow_of h1 (by have := unhide HN; omega))
      go_wp2
      go_ret
      exact ⟨u3, rfl, unhide HB, unhide HTR⟩

set_option maxRecDepth 100000 in
set_option maxHeartbeats 8000000 in
theorem rfields_any (v : Value) (l : List Pc) (ifs : List UInt8) (w : World) (M : Nat) (h : PRow w v l) (hi : ifs.length ≤ 100000) (hM : ∀ p ∈ l, p.text.length ≤ M) (hl : (l.length + 1) * (M + 1) ≤ 900000) :
    Calls Try.prog 12 #[v, .string (BA ifs)] w fun e w' => ∃ u, e = .returned u ∧ Below w.heap.size w w' ∧ FRow w' u (fieldsL ifs l) := by
  obtain ⟨ad, cap, rfl, hp⟩ := h
  obtain ⟨N, hN⟩ : ∃ N, N = l.length := ⟨_, rfl⟩
  rw [← hN] at hl ⊢
  have hNl : N ≤ 900000 := by
    have : (N + 1) * 1 ≤ (N + 1) * (M + 1) := Nat.mul_le_mul_left _ (by omega)
    omega
  have HN := hide hN
  have HM := hide hM
  have HLL : Hid (∀ k, k ≤ N → k * (M + 1) + M + 1 ≤ 900000) := hide (fun k hk => by
    have h1 : (k + 1) * (M + 1) ≤ (N + 1) * (M + 1) := Nat.mul_le_mul_right _ (by omega)
    rw [Nat.add_mul k 1] at h1
    omega)
  have HPB : Hid (∀ (i : Nat) (x : Pc), l[i]? = some x → ∃ g o, ad = some ⟨g, o, none⟩ ∧ ∀ wr, Below w.heap.size w wr → 
    wr.cell? ⟨g, o + i * 4, none⟩ = some (.string (BA x.text)) ∧ wr.cell? ⟨g, o + i * 4 + 1, none⟩ = some (.bool x.q) ∧ wr.cell? ⟨g, o + i * 4 + 2, none⟩ = some (.bool x.s) ∧ wr.cell? ⟨g, o + i * 4 + 3, none⟩ = some (.bool x.b)) := hide (fun i x hi => by
      obtain ⟨g, o, e, hg, c0, c1, c2, c3⟩ := hp i x hi
      exact ⟨g, o, e, fun wr hb => ⟨(hb.cell (p := ⟨g, _, none⟩) hg).trans c0, (hb.cell (p := ⟨g, _, none⟩) hg).trans c1, (hb.cell (p := ⟨g, _, none⟩) hg).trans c2, (hb.cell (p := ⟨g, _, none⟩) hg).trans c3⟩⟩)
  have HI0 : Hid (RS (w.alloc (.cells #[.slice none 0 0, .slice none 0 0, .slice none 0 0, .bool false, .bool false] 57)) w.heap.size w.heap.size ss0 ∧ Below w.heap.size w (w.alloc (.cells #[.slice none 0 0, .slice none 0 0, .slice none 0 0, .bool false, .bool false] 57))) := hide ⟨⟨[], _, _, _, ⟨Blk.new _ _ _, World.ownsRow_nil _ _ _ _, ownB_nil _ _, ownQ_nil _ _, rfl, fun x hx => by simp at hx, Nat.le_refl _⟩⟩, (Below.refl _ w).alloc (Nat.le_refl _) _⟩
  clear hp hN hM hl
  go_enter Try.func12, Try.ntmps12
  go_wp2
  generalize w.alloc (.cells #[.slice none 0 0, .slice none 0 0, .slice none 0 0, .bool false, .bool false] 57) = W0 at HI0 ⊢
  generalize hbo : w.heap.size = b at HI0 HPB ⊢
  have HBO := hide hbo
  clear hbo
  go_loopw [6] (fun i wr => ∃ k : Nat, i = .int .i64 k ∧ k ≤ N ∧ Hid (RS wr b b (runS ifs (l.take k)) ∧ Below b w wr)) (fun i _ => N - (intOf i).toNat)
  case atStart => exact ⟨0, rfl, Nat.zero_le _, HI0⟩
  case round =>
    clear HI0 W0
    obtain ⟨k, rfl, hk, HI⟩ := hrel
    obtain ⟨s, hs⟩ : ∃ s, s = runS ifs (l.take k) := ⟨_, rfl⟩
    rw [← hs] at HI
    have HS := hide hs
    have HSZ : Hid (sizS s ≤ k * (M + 1)) := hide (by rw [hs]; exact size_take (unhide HM) k)
    clear hs
    obtain ⟨th, hth⟩ : ∃ b, s.there = b := ⟨_, rfl⟩
    have HTH := hide hth
    by_cases hlt : k < N
    · obtain ⟨⟨t, q, sp, br⟩, hx⟩ : ∃ x, l[k]? = some x := ⟨_, List.getElem?_eq_getElem (by have := unhide HN; omega)⟩
      obtain ⟨ts, rfl⟩ : ∃ ts : ByteArray, t = ts.data.toList := ⟨BA t, rfl⟩
      have hkz : (k : Int) < (N : Int) := by omega
      have HR := hide (run_take (ifs := ifs) hx)
      have HTM : Hid (ts.size ≤ M) := hide (by have := unhide HM _ (List.mem_of_getElem? hx); rwa [data_len] at this)
      obtain ⟨gp, o, rfl, hc⟩ := unhide HPB k _ hx
      obtain ⟨c0, c1, c2, c3⟩ := hc wr (unhide HI).2
      simp only [BA_of] at c0 c1 c2 c3
      have HIP : Hid (RS (wr.alloc (.cells #[.string ts, .bool q, .bool sp, .bool br] 58)) b b s ∧ Below b w (wr.alloc (.cells #[.string ts, .bool q, .bool sp, .bool br] 58))) := hide ⟨RG.kept (unhide HI).1 ((Below.refl _ _).alloc (Nat.le_refl _) _), (unhide HI).2.alloc (by have := RG.size (unhide HI).1; omega) _⟩
      have HPB0 : Hid (Blk (wr.alloc (.cells #[.string ts, .bool q, .bool sp, .bool br] 58)) wr.heap.size 58 #[.string ts, .bool q, .bool sp, .bool br]) := hide (Blk.new _ _ _)
      have HBD := hide (unhide HLL k (by omega))
      have ct := (RG.flags (unhide HIP).1).1
      have cm := (RG.flags (unhide HIP).1).2.2.1
      have fm := (RG.flags (unhide HIP).1).2.2.2
      rw [hth] at ct
      clear hc hx hth
      cases br with
      | true =>
        have HP1 : Hid (runS ifs (l.take (k + 1)) = offS (closeS s)) := hide (by rw [unhide HR, ← unhide HS]; rfl)
        cases th with
        | true =>
          have HE := hide ((unhide HIP).1.end (by have := unhide HSZ; have := unhide HBD; omega))
          go_wp2_with fail
          refine (unhide HE).mono ?_
          rintro e w2 ⟨rfl, hR, hT⟩
          have e4 := (RG.flags hR).2.2.1
          have y4 := (RG.flags hR).2.2.2
          have HM2 := hide (And.intro (RG.mark hR false).1 ((unhide HIP).2.trans (hT.trans (RG.mark hR false).2).below))
          clear hR hT
          go_wp2
          go_roundw
          case rel => exact ⟨k + 1, by go_num, by omega, hide ⟨by rw [unhide HP1, show closeS s = endS s from if_pos (unhide HTH)]; exact (unhide HM2).1, (unhide HM2).2⟩⟩
          case measure => simp [intOf]; omega
        | false =>
          have HM2 := hide (And.intro (RG.mark (unhide HIP).1 false).1 ((unhide HIP).2.trans (RG.mark (unhide HIP).1 false).2.below))
          go_wp2
          go_roundw
          case rel => exact ⟨k + 1, by go_num, by omega, hide ⟨by rw [unhide HP1, show closeS s = s from if_neg (by rw [unhide HTH]; decide)]; exact (unhide HM2).1, (unhide HM2).2⟩⟩
          case measure => simp [intOf]; omega
      | false =>
        clear ct cm fm
        have HA := hide ((unhide HIP).1.add ts.data.toList q (by have := unhide HSZ; have := unhide HBD; have := unhide HTM; rw [data_len]; omega))
        rw [BA_of] at HA
        cases q with
        | true =>
          have HP1 : Hid (runS ifs (l.take (k + 1)) = addS s ts.data.toList true) := hide (by rw [unhide HR, ← unhide HS]; rfl)
          go_wp2_with fail
          refine (unhide HA).mono ?_
          rintro e w2 ⟨rfl, hR, hT⟩
          have HR2 := hide (And.intro hR ((unhide HIP).2.trans hT.below))
          clear hR hT
          go_wp2
          go_roundw
          case rel => exact ⟨k + 1, by go_num, by omega, hide ⟨by rw [unhide HP1]; exact (unhide HR2).1, (unhide HR2).2⟩⟩
          case measure => simp [intOf]; omega
        | false =>
          cases sp with
          | false =>
            have he : ts.toList.isEmpty = ts.data.toList.isEmpty := by rw [Lib.toList_data]
            cases hte : ts.data.toList.isEmpty with
            | false =>
              rw [hte] at he
              have HP1 : Hid (runS ifs (l.take (k + 1)) = addS s ts.data.toList false) := hide (by rw [unhide HR, ← unhide HS]; unfold pieceS; simp only; rw [hte]; rfl)
              clear hte
              go_wp2_with fail
              refine (unhide HA).mono ?_
              rintro e w2 ⟨rfl, hR, hT⟩
              have HR2 := hide (And.intro hR ((unhide HIP).2.trans hT.below))
              clear hR hT
              go_wp2
              go_roundw
              case rel => exact ⟨k + 1, by go_num, by omega, hide ⟨by rw [unhide HP1]; exact (unhide HR2).1, (unhide HR2).2⟩⟩
              case measure => simp [intOf]; omega
            | true =>
              rw [hte] at he
              have HP1 : Hid (runS ifs (l.take (k + 1)) = s) := hide (by
                have ht0 : ts.data.toList = [] := List.isEmpty_iff.1 hte
                rw [unhide HR, ← unhide HS]; unfold pieceS; simp only; rw [ht0]; rfl)
              clear hte HA
              go_wp2
              go_roundw
              case rel => exact ⟨k + 1, by go_num, by omega, hide ⟨by rw [unhide HP1]; exact (unhide HIP).1, (unhide HIP).2⟩⟩
              case measure => simp [intOf]; omega
          | true =>
            clear HA
            have HP1 : Hid (runS ifs (l.take (k + 1)) = ts.data.toList.foldl (byteS ifs) s) := hide (by rw [unhide HR, ← unhide HS]; rfl)
            go_wp2
            generalize wr.alloc (.cells #[.string ts, .bool false, .bool true, .bool false] 58) = Wp at HIP HPB0 ⊢
            generalize wr.heap.size = bp at HPB0 ⊢
            clear c0 c1 c2 c3 HI
            go_loopw [8] (fun i wx => ∃ j : Nat, i = .int .i64 j ∧ j ≤ ts.size ∧ Hid (RS wx b b ((ts.data.toList.take j).foldl (byteS ifs) s) ∧ Below b w wx ∧ Blk wx bp 58 #[.string ts, .bool false, .bool true, .bool false])) (fun i _ => ts.size - (intOf i).toNat)
            case atStart => exact ⟨0, rfl, Nat.zero_le _, hide ⟨(unhide HIP).1, (unhide HIP).2, unhide HPB0⟩⟩
            case round =>
              clear HIP HPB0
              obtain ⟨j, rfl, hj, HJ⟩ := hrel
              obtain ⟨x, hx⟩ : ∃ x, x = (ts.data.toList.take j).foldl (byteS ifs) s := ⟨_, rfl⟩
              rw [← hx] at HJ
              have HX := hide hx
              have HXZ : Hid (sizS x ≤ k * (M + 1) + j) := hide (by have h1 := sizS_bytes ifs (ts.data.toList.take j) s; have h2 := unhide HSZ; have h3 := List.length_take_le j ts.data.toList; rw [hx]; omega)
              clear hx
              have d0 := (unhide HJ).2.2.cell 0 rfl
              have hjb : ts.size ≤ 900000 := by have := unhide HBD; have := unhide HTM; omega
              by_cases hjn : j < ts.size
              · have hjz : (j : Int) < (ts.size : Int) := by omega
                obtain ⟨c, hc⟩ : ∃ c : UInt8, ts[j]'hjn = c := ⟨_, rfl⟩
                have HB1 : Hid ((ts.data.toList.take (j + 1)).foldl (byteS ifs) s = byteS ifs x c) := hide (by rw [unhide HX]; exact bytes_take (by rw [List.getElem?_eq_getElem (by rw [data_len]; exact hjn), data_get ts j hjn, hc]))
                have HSG := hide (rsign_any c ifs wr b b x (unhide HJ).1 (by have := unhide HXZ; have := unhide HBD; have := unhide HTM; omega) hi)
                go_wp2_with fail
                refine (unhide HSG).mono ?_
                rintro e w2 ⟨rfl, hR, hT⟩
                have HR2 := hide (And.intro hR (And.intro ((unhide HJ).2.1.trans hT.below) (hT.keep _ _ _ (unhide HJ).2.2 (by decide))))
                clear hR hT
                go_wp2
                go_roundw
                case rel => exact ⟨j + 1, by go_num, by omega, hide ⟨by rw [unhide HB1]; exact (unhide HR2).1, (unhide HR2).2⟩⟩
                case measure => simp [intOf]; omega
              · have hjz : ¬ (j : Int) < (ts.size : Int) := by omega
                have HE : Hid (ts.data.toList.take j = ts.data.toList) := hide (List.take_of_length_le (by rw [data_len]; omega))
                go_wp2
                go_roundw
                case rel => exact ⟨k + 1, by go_num, by omega, hide ⟨by rw [unhide HP1, ← unhide HE, ← unhide HX]; exact (unhide HJ).1, (unhide HJ).2.1⟩⟩
                case measure => simp [intOf]; omega
    · have hkz : ¬ (k : Int) < (N : Int) := by omega
      have ct := (RG.flags (unhide HI).1).1
      rw [hth] at ct
      have HTA : Hid (l.take k = l) := hide (List.take_of_length_le (by have := unhide HN; omega))
      clear hth
      cases th with
      | true =>
        have HE := hide ((unhide HI).1.end (by have := unhide HSZ; have := unhide HLL k (by omega); omega))
        go_wp2_with fail
        refine (unhide HE).mono ?_
        rintro e w2 ⟨rfl, hR, hT⟩
        obtain ⟨L, ov, nv, qv, hg⟩ := hR
        have co : w2.cell? ⟨b, 0, none⟩ = some ov := hg.blk.cell 0 rfl
        have HG := hide hg
        have HB2 := hide ((unhide HI).2.trans hT.below)
        clear hg hT
        go_wp2
        go_ret
        exact ⟨ov, rfl, by rw [unhide HBO]; exact unhide HB2, by
          rw [show fieldsL ifs l = L.map Prod.fst by
            rw [(unhide HG).out, unhide HS, unhide HTA]
            unfold fieldsL closeS
            rw [if_pos]
            rw [← unhide HTA, ← unhide HS]
            exact unhide HTH]
          exact frow_of (unhide HG).row (fun x hx => ((unhide HG).sub x hx).1.form)⟩
      | false =>
        obtain ⟨L, ov, nv, qv, hg⟩ := (unhide HI).1
        have co : wr.cell? ⟨b, 0, none⟩ = some ov := hg.blk.cell 0 rfl
        have HG := hide hg
        clear hg
        go_wp2
        go_ret
        exact ⟨ov, rfl, by rw [unhide HBO]; exact (unhide HI).2, by
          rw [show fieldsL ifs l = L.map Prod.fst by
            rw [(unhide HG).out, unhide HS, unhide HTA]
            unfold fieldsL closeS
            rw [if_neg]
            rw [← unhide HTA, ← unhide HS, unhide HTH]
            decide]
          exact frow_of (unhide HG).row (fun x hx => ((unhide HG).sub x hx).1.form)⟩

end Go.Proofs.Ytpljphbaibncjaa

/-
  ArithSums holds: sums, differences, products, comparisons and masks of any two numbers are Go's; no condition beyond the card's own (the listed library variables, tied to the program's text).
-/
import Derived.Test.YtlbpeknncakfeaaGreatDoorStart
import Derived.Test.YtlbpeknncakfeaaGreatDoorSumPlain
namespace Go.Proofs.YtlbpeknncakfeaaGreatDoor
open Go.ChangeShapes Go.WideShapes Go.ChangeAt Go.RowKit

/-- The two variables, in a fresh row. -/
theorem row_ab (w : World) (a b : Int) : PRow (w.heap.size + 1) (w.alloc (.cells #[.string ⟨#[97]⟩, .string (BA (textL a)), .string ⟨#[98]⟩, .string (BA (textL b))] 39)) (.slice (some ⟨w.heap.size, 0, none⟩) 2 2) (abV a b) := by
  refine ⟨_, 2, rfl, by simp [abV], .inr ⟨w.heap.size, 0, rfl, by omega, fun j hj => ?_⟩⟩
  have hb := Blk.new w 39 #[.string ⟨#[97]⟩, .string (BA (textL a)), .string ⟨#[98]⟩, .string (BA (textL b))]
  match j, hj with
  | 0, _ => exact ⟨hb.cell 0 rfl, hb.cell 1 rfl⟩
  | 1, _ => exact ⟨hb.cell 2 rfl, hb.cell 3 rfl⟩
theorem ab_len {a b : Int} (ha : I64 a) (hb : I64 b) : ∀ p ∈ abV a b, p.2.length ≤ 100000 := by
  intro p hp
  unfold abV at hp
  simp only [List.mem_cons, List.not_mem_nil, or_false] at hp
  rcases hp with rfl | rfl
  · exact text_len ha
  · exact text_len hb
/-- What a call of 'Eval' answers that comes out well and sets nothing. -/
theorem eval_n {a b : Int} (ha : I64 a) (hb : I64 b) {l : List UInt8} {n : Int} (hl : l.length ≤ 100000) (h : evalL (abV a b) l = .ok (n, [])) (va : Value) (n₀ : Nat) (w : World) (hv : PRow n₀ w va (abV a b)) (hn : n₀ ≤ w.heap.size) (he : Env w) :
    Calls Tryz.prog 13 #[.string (BA l), va] w fun e w' => (∃ x cap, e = .returned (.tuple #[.int .i64 n, .slice x 0 cap, .int .i64 0])) ∧ Below w.heap.size w w' := by
  refine (eval_any l (abV a b) va n₀ w hv hn hl (ab_len ha hb) he).mono ?_
  rw [h]
  rintro e w' ⟨⟨_, _, sv, rfl, x, cap, rfl, _⟩, hbl⟩
  exact ⟨⟨x, cap, rfl⟩, hbl⟩

set_option maxRecDepth 20000 in
set_option maxHeartbeats 16000000 in
theorem sums_walk (a b : Int) (w : World) (he : Env w) (ha : I64 a) (hb : I64 b) : Calls Tryz.prog 6 #[.int .i64 a, .int .i64 b] w fun e w' => e = .returned (.bool true) ∧ Below w.heap.size w w' := by
  have HE := hide he
  have HA := hide ha
  have HB := hide hb
  clear he ha hb
  go_enter Tryz.func6, Tryz.ntmps6
  go_wp2_with fail
  refine (text_any a w (unhide HE) (unhide HA)).mono ?_
  rintro e w1 ⟨rfl, b1⟩
  have B1 := hide b1
  have HE1 := hide ((unhide HE).below b1)
  clear b1
  go_wp2_with fail
  refine (text_any b w1 (unhide HE1) (unhide HB)).mono ?_
  rintro e w2 ⟨rfl, b2⟩
  have B2 := hide ((unhide B1).trans (b2.mono (unhide B1).size))
  have HE2 := hide ((unhide HE1).below b2)
  clear b2
  go_wp2_with fail
  obtain ⟨X, hX⟩ : ∃ X, X = ((w2.alloc (.cells #[.string ⟨#[97]⟩, .string (BA (textL a)), .string ⟨#[98]⟩, .string (BA (textL b))] 39)).alloc (.cells #[.string ⟨#[97, 32, 43, 32, 98]⟩, .string ⟨#[97, 32, 45, 32, 98]⟩, .string ⟨#[97, 32, 42, 32, 98]⟩, .string ⟨#[97, 32, 38, 32, 98]⟩, .string ⟨#[97, 32, 124, 32, 98]⟩, .string ⟨#[97, 32, 94, 32, 98]⟩, .string ⟨#[45, 97]⟩, .string ⟨#[126, 97]⟩, .string ⟨#[97, 32, 60, 60, 32, 49]⟩, .string ⟨#[97, 32, 62, 62, 32, 54, 51]⟩] 9)).alloc (.cells #[.int .i64 (wrap64 (a + b)), .int .i64 (wrap64 (a - b)), .int .i64 (wrap64 (a * b)), .int .i64 (bits BinOp.and IntKind.i64 a b), .int .i64 (bits BinOp.or IntKind.i64 a b), .int .i64 (bits BinOp.xor IntKind.i64 a b), .int .i64 (wrap64 (-a)), .int .i64 (bits BinOp.xor IntKind.i64 (-1) a), .int .i64 (wrap64 (a * 2)), .int .i64 (a / 9223372036854775808)] 3) := ⟨_, rfl⟩
  have bX : Below w2.heap.size w2 X := by rw [hX]; exact below_of_grown (grown3 _ _ _ _)
  have rX : PRow (w2.heap.size + 1) X (.slice (some ⟨w2.heap.size, 0, none⟩) 2 2) (abV a b) := by
    rw [hX]
    exact (row_ab w2 a b).below (below_of_grown (grown2 _ _ _)) (by rw [size1]; exact Nat.le_refl _)
  have hTb : Blk X (w2.heap.size + 1) 9 #[.string ⟨#[97, 32, 43, 32, 98]⟩, .string ⟨#[97, 32, 45, 32, 98]⟩, .string ⟨#[97, 32, 42, 32, 98]⟩, .string ⟨#[97, 32, 38, 32, 98]⟩, .string ⟨#[97, 32, 124, 32, 98]⟩, .string ⟨#[97, 32, 94, 32, 98]⟩, .string ⟨#[45, 97]⟩, .string ⟨#[126, 97]⟩, .string ⟨#[97, 32, 60, 60, 32, 49]⟩, .string ⟨#[97, 32, 62, 62, 32, 54, 51]⟩] := by rw [hX]; exact (Blk.new1 _ _ _ _).alloc _
  have hUb : Blk X (w2.heap.size + 1 + 1) 3 #[.int .i64 (wrap64 (a + b)), .int .i64 (wrap64 (a - b)), .int .i64 (wrap64 (a * b)), .int .i64 (bits BinOp.and IntKind.i64 a b), .int .i64 (bits BinOp.or IntKind.i64 a b), .int .i64 (bits BinOp.xor IntKind.i64 a b), .int .i64 (wrap64 (-a)), .int .i64 (bits BinOp.xor IntKind.i64 (-1) a), .int .i64 (wrap64 (a * 2)), .int .i64 (a / 9223372036854775808)] := by rw [hX]; exact Blk.new2 _ _ _ _ _
  have hZX : X.heap.size = w2.heap.size + 3 := by rw [hX]; exact sz3 _ _ _ _
  have HT : Hid (∀ k (hk : k < 10), X.cell? ⟨w2.heap.size + 1, k, none⟩ = some (.string (BA (sumT[k]'hk)))) := hide (by
    intro k hk
    refine hTb.cell k ?_
    match k, hk with
    | 0, _ => rfl
    | 1, _ => rfl
    | 2, _ => rfl
    | 3, _ => rfl
    | 4, _ => rfl
    | 5, _ => rfl
    | 6, _ => rfl
    | 7, _ => rfl
    | 8, _ => rfl
    | 9, _ => rfl)
  have HU : Hid (∀ k (hk : k < 10), X.cell? ⟨w2.heap.size + 1 + 1, k, none⟩ = some (.int .i64 ((sumW a b)[k]'hk))) := hide (by
    intro k hk
    refine hUb.cell k ?_
    match k, hk with
    | 0, _ => rfl
    | 1, _ => rfl
    | 2, _ => rfl
    | 3, _ => rfl
    | 4, _ => rfl
    | 5, _ => rfl
    | 6, _ => rfl
    | 7, _ => rfl
    | 8, _ => rfl
    | 9, _ => rfl)
  rw [← hX]
  have BX := hide ((unhide B2).trans (bX.mono (unhide B2).size))
  have HEX := hide ((unhide HE2).below bX)
  have RX := hide rX
  have ZX := hide hZX
  clear hX bX rX hTb hUb hZX
  go_loopw [8] (fun i wr => ∃ k : Nat, k ≤ 10 ∧ i = .int .i64 k ∧ Hid (Below X.heap.size X wr)) (fun i _ => 10 - (intOf i).toNat)
  case atStart => exact ⟨0, by omega, rfl, hide (Below.refl _ _)⟩
  case round =>
    obtain ⟨k, hk, rfl, HBL⟩ := hrel
    by_cases hlt : k < 10
    · obtain ⟨l, hl⟩ : ∃ l, l = sumT[k]'hlt := ⟨_, rfl⟩
      obtain ⟨x, hx⟩ : ∃ x, x = (sumW a b)[k]'hlt := ⟨_, rfl⟩
      have hev := sum_ev (unhide HA) (unhide HB) k hlt
      have q1 := (unhide HBL).cell (p := ⟨w2.heap.size + 1, k, none⟩) (by have := unhide ZX; show w2.heap.size + 1 < _; omega)
      have q2 := (unhide HBL).cell (p := ⟨w2.heap.size + 1 + 1, k, none⟩) (by have := unhide ZX; show w2.heap.size + 1 + 1 < _; omega)
      rw [unhide HT k hlt] at q1
      rw [unhide HU k hlt] at q2
      have hll : l.length ≤ 100000 := by
        have : ∀ y ∈ sumT, y.length ≤ 100000 := by decide
        rw [hl]; exact this _ (List.getElem_mem hlt)
      rw [← hl] at hev q1
      rw [← hx] at hev q2
      have HCALL := hide (eval_n (unhide HA) (unhide HB) hll hev (.slice (some ⟨w2.heap.size, 0, none⟩) 2 2) (w2.heap.size + 1) wr ((unhide RX).below (unhide HBL) (by have := unhide ZX; omega)) (by have := unhide ZX; have := (unhide HBL).size; omega) ((unhide HEX).below (unhide HBL)))
      have hk0 : (k : Int) < 10 := by omega
      clear hl hx hev hll
      go_wp2_with fail
      refine (unhide HCALL).mono ?_
      rintro e w3 ⟨⟨xa, xc, rfl⟩, b3⟩
      have q3 := (b3.cell (p := ⟨w2.heap.size + 1 + 1, k, none⟩) (cell_lt q2)).trans q2
      have HB3 := hide ((unhide HBL).trans (b3.mono (unhide HBL).size))
      clear b3
      go_wp2
      refine ⟨⟨k + 1, by omega, by go_num, HB3⟩, ?_⟩
      simp [intOf]; omega
    · have hkt : ¬ (k : Int) < 10 := by omega
      go_wp2_with fail
      obtain ⟨Y, hY⟩ : ∃ Y, Y = (wr.alloc (.cells #[.string ⟨#[97, 32, 60, 32, 98]⟩, .string ⟨#[97, 32, 60, 61, 32, 98]⟩, .string ⟨#[97, 32, 62, 32, 98]⟩, .string ⟨#[97, 32, 62, 61, 32, 98]⟩, .string ⟨#[97, 32, 61, 61, 32, 98]⟩, .string ⟨#[97, 32, 33, 61, 32, 98]⟩] 9)).alloc (.cells #[.bool (decide (a < b)), .bool (decide (a ≤ b)), .bool (decide (b < a)), .bool (decide (b ≤ a)), .bool (a == b), .bool (a != b)] 4) := ⟨_, rfl⟩
      have bY : Below wr.heap.size wr Y := by rw [hY]; exact below_of_grown (grown2 _ _ _)
      have hTb : Blk Y wr.heap.size 9 #[.string ⟨#[97, 32, 60, 32, 98]⟩, .string ⟨#[97, 32, 60, 61, 32, 98]⟩, .string ⟨#[97, 32, 62, 32, 98]⟩, .string ⟨#[97, 32, 62, 61, 32, 98]⟩, .string ⟨#[97, 32, 61, 61, 32, 98]⟩, .string ⟨#[97, 32, 33, 61, 32, 98]⟩] := by rw [hY]; exact (Blk.new _ _ _).alloc _
      have hUb : Blk Y (wr.heap.size + 1) 4 #[.bool (decide (a < b)), .bool (decide (a ≤ b)), .bool (decide (b < a)), .bool (decide (b ≤ a)), .bool (a == b), .bool (a != b)] := by rw [hY]; exact Blk.new1 _ _ _ _
      have hZY : Y.heap.size = wr.heap.size + 2 := by rw [hY]; exact sz2 _ _ _
      have HT2 : Hid (∀ k (hk : k < 6), Y.cell? ⟨wr.heap.size, k, none⟩ = some (.string (BA (cmpT[k]'hk)))) := hide (by
        intro k hk
        refine hTb.cell k ?_
        match k, hk with
        | 0, _ => rfl
        | 1, _ => rfl
        | 2, _ => rfl
        | 3, _ => rfl
        | 4, _ => rfl
        | 5, _ => rfl)
      have HU2 : Hid (∀ k (hk : k < 6), Y.cell? ⟨wr.heap.size + 1, k, none⟩ = some (.bool ((cmpW a b)[k]'hk))) := hide (by
        intro k hk
        refine hUb.cell k ?_
        match k, hk with
        | 0, _ => rfl
        | 1, _ => rfl
        | 2, _ => rfl
        | 3, _ => rfl
        | 4, _ => rfl
        | 5, _ => rfl)
      rw [← hY]
      have BXY := hide ((unhide HBL).trans (bY.mono (unhide HBL).size))
      have ZY := hide hZY
      have BY := hide bY
      clear hY hTb hUb hZY bY
      obtain ⟨wA, hwA⟩ : ∃ x, x = wr := ⟨_, rfl⟩
      subst hwA
      go_loopw [14] (fun i wr => ∃ k : Nat, k ≤ 6 ∧ i = .int .i64 k ∧ Hid (Below Y.heap.size Y wr)) (fun i _ => 6 - (intOf i).toNat)
      case atStart => exact ⟨0, by omega, rfl, hide (Below.refl _ _)⟩
      case round =>
        obtain ⟨k, hk, rfl, HBL2⟩ := hrel
        have BX2 := hide ((unhide BXY).trans ((unhide HBL2).mono (by have := (unhide HBL).size; have := unhide ZY; omega)))
        by_cases hlt : k < 6
        · obtain ⟨l, hl⟩ : ∃ l, l = cmpT[k]'hlt := ⟨_, rfl⟩
          obtain ⟨x, hx⟩ : ∃ x, x = (cmpW a b)[k]'hlt := ⟨_, rfl⟩
          have hev := cmp_ev (unhide HA) (unhide HB) k hlt
          have q1 := (unhide HBL2).cell (p := ⟨wA.heap.size, k, none⟩) (by have := unhide ZY; show wA.heap.size < _; omega)
          have q2 := (unhide HBL2).cell (p := ⟨wA.heap.size + 1, k, none⟩) (by have := unhide ZY; show wA.heap.size + 1 < _; omega)
          rw [unhide HT2 k hlt] at q1
          rw [unhide HU2 k hlt] at q2
          have hll : l.length ≤ 100000 := by
            have : ∀ y ∈ cmpT, y.length ≤ 100000 := by decide
            rw [hl]; exact this _ (List.getElem_mem hlt)
          rw [← hl] at hev q1
          rw [← hx] at hev q2
          have hcall := eval_n (unhide HA) (unhide HB) hll hev (.slice (some ⟨w2.heap.size, 0, none⟩) 2 2) (w2.heap.size + 1) wr ((unhide RX).below (unhide BX2) (by have := unhide ZX; omega)) (by have := unhide ZX; have := (unhide BX2).size; omega) ((unhide HEX).below (unhide BX2))
          have hk0 : (k : Int) < 6 := by omega
          clear hl hx hev hll
          cases x
          all_goals
            have HCALL := hide hcall
            clear hcall
            simp only [truthI] at HCALL
            go_wp2_with fail
            refine (unhide HCALL).mono ?_
            rintro e w3 ⟨⟨xa, xc, rfl⟩, b3⟩
            have q3 := (b3.cell (p := ⟨wA.heap.size + 1, k, none⟩) (cell_lt q2)).trans q2
            have HB3 := hide ((unhide HBL2).trans (b3.mono (unhide HBL2).size))
            clear b3
            go_wp2
            refine ⟨⟨k + 1, by omega, by go_num, HB3⟩, ?_⟩
            simp [intOf]; omega
        · have hkt : k = 6 := by omega
          subst hkt
          have BF := hide ((unhide BX).trans ((unhide BX2).mono (unhide BX).size))
          have HEF := hide ((unhide HEX).below (unhide BX2))
          have RF := hide ((unhide RX).below (unhide BX2) (by have := unhide ZX; omega))
          have ZF := hide (show w2.heap.size + 1 ≤ wr.heap.size by have := unhide ZX; have := (unhide BX2).size; omega)
          by_cases hb0 : b = 0
          · have HBZ : Hid (∀ va (hv : PRow (w2.heap.size + 1) wr va (abV a b)), Calls Tryz.prog 13 #[.string ⟨#[97, 32, 37, 32, 98]⟩, va] wr fun e w' => e = .returned (.tuple #[.int .i64 0, .slice none 0 0, .int .i64 13]) ∧ Below wr.heap.size wr w') := hide (by
              intro va hv
              refine (eval_any [97, 32, 37, 32, 98] (abV a b) va (w2.heap.size + 1) wr hv (unhide ZF) (by decide) (ab_len (unhide HA) (unhide HB)) (unhide HEF)).mono ?_
              rw [hb0, rem_zero (unhide HA)]
              rintro e w' ⟨⟨rfl, _⟩, hb⟩
              exact ⟨rfl, hb⟩)
            have hb1 : (b == 0) = true := by simpa using hb0
            clear hb0
            go_wp2_with fail
            refine (unhide HBZ _ (unhide RF)).mono ?_
            rintro e w3 ⟨rfl, b3⟩
            have B3 := hide ((unhide BF).trans (b3.mono (unhide BF).size))
            have HE3 := hide ((unhide HEF).below b3)
            clear b3
            go_wp2_with fail
            refine (awake_any w3 (unhide HE3)).mono ?_
            rintro e w4 ⟨rfl, b4⟩
            have B4 := hide ((unhide B3).trans (b4.mono (unhide B3).size))
            clear b4
            go_wp2
            go_ret
            exact ⟨rfl, unhide B4⟩
          · have HQ := hide (fun va hv => eval_n (unhide HA) (unhide HB) (l := sumL) (by decide) (sum_all (unhide HA) (unhide HB) hb0) va (w2.heap.size + 1) wr hv (unhide ZF) (unhide HEF))
            have hb1 : (b == 0) = false := by simpa using hb0
            clear hb0
            go_wp2_with fail
            refine (unhide HQ _ (unhide RF)).mono ?_
            rintro e w3 ⟨⟨xa, xc, rfl⟩, b3⟩
            have B3 := hide ((unhide BF).trans (b3.mono (unhide BF).size))
            have HE3 := hide ((unhide HEF).below b3)
            clear b3
            go_wp2_with fail
            refine (awake_any w3 (unhide HE3)).mono ?_
            rintro e w4 ⟨rfl, b4⟩
            have B4 := hide ((unhide B3).trans (b4.mono (unhide B3).size))
            clear b4
            go_wp2
            go_ret
            exact ⟨rfl, unhide B4⟩

set_option maxRecDepth 100000 in
theorem arithSums_lifted (os : Os) (started : os.Started) (H : Type) (enc : TypeId × Value → H) :
    ReturnsInHanded {} Tryz.checked os 6 .any (fun w args => (Rows.arithSumsSpec.pre enc Tryz.prog Tryz.f6 [] false w args ∧ laidMetH Tryz.prog seatLaid w) ∧ sizedMet enc Tryz.prog Tryz.f6 (OpenSpec.ofChange Rows.arithSumsSpec) false w args)
      (Rows.arithSumsSpec.post enc Tryz.prog Tryz.f6 false true false false) := by
  refine law_lifted (C := Tryz.checked) (L := seatLaid) (tb := 4) own started (by kernel_rfl) Tryz.func6 laidOut rfl (read_of (by kernel_rfl)) (by kernel_rfl) Tryz.underlying4 ?_
    (ChangeSpec.witness_shaped (enc := enc) (C := Tryz.checked) (os := os) (X := fun w _ => laidMetH Tryz.prog seatLaid w) false (World.laidAll Tryz.prog os seatLaid) #[.int .i64 0, .int .i64 0] 8 (World.laidAll_os _ _ _)
      (World.shaped_of_ZipB (by kernel_rfl) (by kernel_rfl)) (by kernel_rfl) (by kernel_rfl) (by kernel_rfl) (door_met os _)) ?_
  · intro ds hds
    rw [show Tryz.f6.params.toList.length = 2 from by kernel_rfl] at hds
    match ds, hds with
    | [d0, d1], _ => rfl
  · intro W base args ds ps hval0 hA0 hL hsh
    have hval : ∀ (j : Nat) t v, Tryz.f6.params[j]? = some t → args[j]? = some v → Value.okWide Tryz.prog W .any base t v := hval0
    have hA : DataW.TrodAll enc Tryz.prog W 0 (fun _ => true) true Tryz.f6.params.toList args.toList ds ps := hA0
    rw [Tryz.params6] at hA hval
    obtain ⟨v0, v1, d0, d1, p0, p1, rfl, rfl, rfl, h0, h1⟩ := trodAll_two hA
    obtain ⟨a, rfl, rfl, rfl, wa⟩ := open_int Tryz.underlying3 (hval 0 3 v0 rfl rfl) h0
    obtain ⟨b, rfl, rfl, rfl, wb⟩ := open_int Tryz.underlying3 (hval 1 3 v1 rfl rfl) h1
    exact sums_walk a b W (env_of hL hsh) (i64_of_wf wa) (i64_of_wf wb)

theorem arithSums_row : Rows.ArithSumsSaid :=
  OpenClaim.holds_of_wide 6 Tryz.f6 rfl rfl rfl rfl rfl rfl rfl ⟨rfl, rfl, rfl, rfl, rfl⟩ rfl rfl rfl rfl rfl (by kernel_rfl) Tryz.func6 (by kernel_rfl)
    (of_decide_eq_true (by kernel_rfl)) (by unfold Func.isWrapper; first | (rw [if_pos (by decide +kernel)]; kernel_rfl) | (rw [if_neg (by decide +kernel)]; exact ⟨rfl, rfl⟩))
    (fun os started H enc _ => arithSums_lifted os started H enc)

theorem arithSums_holds : Rows.ArithSumsCardSaid :=
  Claim7.holds_tied_plain_at .later [] [.data, .data, .data, .data, .sentinel, .sentinel, .pinned] true (true, "a5c63b735f0707980e6a6b49a9b9466cb4e0ad6100d085c50bc295af36e29eb0") true
    arithSums_row (fun _ h => by cases h) (by kernel_rfl) (fun _ h => by cases h) arithSums_row_tie rfl ⟨rfl, rfl⟩ (by kernel_rfl) rfl
    (fun f fn hf hfn => by
      obtain rfl : f = 6 := Option.some.inj ((show Tryz.prog.funcNamed "conch/conchlaw03.ArithSums" = some 6 by kernel_rfl).symm.trans hf) |>.symm
      obtain rfl : fn = Tryz.f6 := (Option.some.inj (Tryz.func6.symm.trans hfn)).symm
      exact ⟨by kernel_rfl, fun j t ht => by
        rw [Tryz.params6] at ht
        have hm : t ∈ [3, 3] := by simpa using Array.mem_of_getElem? ht
        have hall : ([3, 3].all fun u => !Tryz.prog.wantsStandIn u) = true := by kernel_rfl
        exact (show Tryz.prog.wantsStandIn t = false by simpa using List.all_eq_true.1 hall t hm)⟩)
    (by kernel_rfl)
#print axioms arithSums_holds

end Go.Proofs.YtlbpeknncakfeaaGreatDoor

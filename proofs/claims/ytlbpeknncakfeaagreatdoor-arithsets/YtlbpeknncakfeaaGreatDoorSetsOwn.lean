/-
  ArithSets holds: what is set has the number that is answered, may be read behind it, and what is passed over sets nothing; no condition beyond the card's own (the listed library variables, tied to the program's text).
-/
import Derived.Test.YtlbpeknncakfeaaGreatDoorStart
import Derived.Test.YtlbpeknncakfeaaGreatDoorSetPlain
import Derived.Deep.RegionHeld3
namespace Go.Proofs.YtlbpeknncakfeaaGreatDoor
open Go.ChangeShapes Go.WideShapes Go.ChangeAt Go.RowKit

/-- The two variables, in a fresh row. -/
theorem row_ab2 (w : World) (a b : Int) : PRow (w.heap.size + 1) (w.alloc (.cells #[.string ⟨#[97]⟩, .string (BA (textL a)), .string ⟨#[98]⟩, .string (BA (textL b))] 39)) (.slice (some ⟨w.heap.size, 0, none⟩) 2 2) (abV a b) := by
  refine ⟨_, 2, rfl, by simp [abV], .inr ⟨w.heap.size, 0, rfl, by omega, fun j hj => ?_⟩⟩
  have hb := Blk.new w 39 #[.string ⟨#[97]⟩, .string (BA (textL a)), .string ⟨#[98]⟩, .string (BA (textL b))]
  match j, hj with
  | 0, _ => exact ⟨hb.cell 0 rfl, hb.cell 1 rfl⟩
  | 1, _ => exact ⟨hb.cell 2 rfl, hb.cell 3 rfl⟩
theorem ab_len2 {a b : Int} (ha : I64 a) (hb : I64 b) : ∀ p ∈ abV a b, p.2.length ≤ 100000 := by
  intro p hp
  unfold abV at hp
  simp only [List.mem_cons, List.not_mem_nil, or_false] at hp
  rcases hp with rfl | rfl
  · exact text_len ha
  · exact text_len hb
/-- What a call of 'Eval' answers that comes out well and sets one name, or none. -/
theorem eval_1 {a b : Int} (ha : I64 a) (hb : I64 b) {l s t : List UInt8} {n : Int} (hl : l.length ≤ 100000) (h : evalL (abV a b) l = .ok (n, [(s, t)])) (va : Value) (n₀ : Nat) (w : World) (hv : PRow n₀ w va (abV a b)) (hn : n₀ ≤ w.heap.size) (he : Env w) :
    Calls Tryz.prog 13 #[.string (BA l), va] w fun e w' => (∃ x o cap, e = .returned (.tuple #[.int .i64 n, .slice (some ⟨x, o, none⟩) 1 cap, .int .i64 0]) ∧ w'.cell? ⟨x, o, none⟩ = some (.string (BA s)) ∧ w'.cell? ⟨x, o + 1, none⟩ = some (.string (BA t))) ∧ Below w.heap.size w w' := by
  refine (eval_any l (abV a b) va n₀ w hv hn hl (ab_len2 ha hb) he).mono ?_
  rw [h]
  rintro e w' ⟨⟨_, _, sv, rfl, x, cap, rfl, _, hr⟩, hbl⟩
  rcases hr with hr | ⟨bb, o, rfl, _, hc⟩
  · cases hr
  · exact ⟨⟨bb, o, cap, rfl, by simpa using (hc 0 (by simp)).1, by simpa using (hc 0 (by simp)).2⟩, hbl⟩
theorem eval_0 {a b : Int} (ha : I64 a) (hb : I64 b) {l : List UInt8} {n : Int} (hl : l.length ≤ 100000) (h : evalL (abV a b) l = .ok (n, [])) (va : Value) (n₀ : Nat) (w : World) (hv : PRow n₀ w va (abV a b)) (hn : n₀ ≤ w.heap.size) (he : Env w) :
    Calls Tryz.prog 13 #[.string (BA l), va] w fun e w' => (∃ x cap, e = .returned (.tuple #[.int .i64 n, .slice x 0 cap, .int .i64 0])) ∧ Below w.heap.size w w' := by
  refine (eval_any l (abV a b) va n₀ w hv hn hl (ab_len2 ha hb) he).mono ?_
  rw [h]
  rintro e w' ⟨⟨_, _, sv, rfl, x, cap, rfl, _⟩, hbl⟩
  exact ⟨⟨x, cap, rfl⟩, hbl⟩

set_option maxRecDepth 20000 in
set_option maxHeartbeats 16000000 in
theorem sets_walk (a b : Int) (w : World) (he : Env w) (ha : I64 a) (hb : I64 b) : Calls Tryz.prog 7 #[.int .i64 a, .int .i64 b] w fun e w' => e = .returned (.bool true) ∧ Below w.heap.size w w' := by
  have HE := hide he
  have HA := hide ha
  have HB := hide hb
  clear he ha hb
  go_enter Tryz.func7, Tryz.ntmps7
  go_wp2_with fail
  refine (text_any a w (unhide HE) (unhide HA)).mono ?_
  rintro e w1 ⟨rfl, b1⟩
  have B1 := hide b1
  have HE1 := hide ((unhide HE).below b1)
  clear b1
  go_wp2_with fail
  refine (text_any b w1 (unhide HE1) (unhide HB)).mono ?_
  rintro e w2 ⟨rfl, b2⟩
  have B2 := hide ((unhide B1).trans (b2.mono (unhide B1).size))
  have HE2 := hide ((unhide HE1).below b2)
  clear b2
  go_wp2_with fail
  obtain ⟨X, hX⟩ : ∃ X, X = w2.alloc (.cells #[.string ⟨#[97]⟩, .string (BA (textL a)), .string ⟨#[98]⟩, .string (BA (textL b))] 39) := ⟨_, rfl⟩
  have bX : Below w2.heap.size w2 X := by rw [hX]; exact below_of_grown (alloc_grown _ _)
  have rX : PRow (w2.heap.size + 1) X (.slice (some ⟨w2.heap.size, 0, none⟩) 2 2) (abV a b) := by rw [hX]; exact row_ab2 w2 a b
  have hZX : X.heap.size = w2.heap.size + 1 := by rw [hX]; exact size1 _ _
  rw [← hX]
  have BX := hide ((unhide B2).trans (bX.mono (unhide B2).size))
  have HEX := hide ((unhide HE2).below bX)
  have RX := hide rX
  have ZX := hide hZX
  clear hX bX rX hZX
  have hs1 := set1 (unhide HA) (unhide HB)
  obtain ⟨n1, hn1⟩ : ∃ n, n = wrap64 (a - b) := ⟨_, rfl⟩
  have hi1 : I64 n1 := by rw [hn1]; exact i64_wrap _
  have hw1 : IntKind.i64.wrap (a - b) = n1 := by rw [hn1, IntKind.wrap_i64]; unfold wrap64; omega
  rw [← hn1] at hs1
  have HI1 := hide hi1
  have HS1 := hide hs1
  clear hn1 hi1 hs1
  refine (eval_1 (unhide HA) (unhide HB) (l := setL1) (by decide) (unhide HS1) _ (w2.heap.size + 1) X (unhide RX) (by rw [unhide ZX]; exact Nat.le_refl _) (unhide HEX)).mono ?_
  rintro e w3 ⟨⟨x3, o3, c3, rfl, p3o, q3⟩, b3⟩
  have p3 : w3.cell? ⟨x3, o3, none⟩ = some (.string ⟨#[99]⟩) := p3o
  clear p3o
  have BX3 := hide b3
  have HE3 := hide ((unhide HEX).below b3)
  have HD3 := hide (((unhide HEX).below b3).below (below_of_grown (grown_drew' (World.grownBy.refl w3 none))))
  have HTX : Hid (Calls Tryz.prog 17 #[.int .i64 n1] w3.drew fun e w4 => e = .returned (.string (BA (textL n1))) ∧ (w4.cell? ⟨x3, o3, none⟩ = some (.string ⟨#[99]⟩) ∧ w4.cell? ⟨x3, o3 + 1, none⟩ = some (.string (BA (textL n1)))) ∧ Below w3.heap.size w3 w4) := hide (by
    refine (text_any n1 w3.drew (unhide HD3) (unhide HI1)).mono ?_
    rintro e w4 ⟨rfl, b4⟩
    have b5 : Below w3.heap.size w3 w4 := (below_of_grown (grown_drew' (World.grownBy.refl w3 none))).trans b4
    exact ⟨rfl, ⟨(b5.cell (p := ⟨x3, o3, none⟩) (cell_lt p3)).trans p3, (b5.cell (p := ⟨x3, o3 + 1, none⟩) (cell_lt q3)).trans q3⟩, b5⟩)
  clear b3
  go_wp2_with fail
  go_region_held3 (fun w' => w'.cell? ⟨x3, o3, none⟩ = some (.string ⟨#[99]⟩) ∧ w'.cell? ⟨x3, o3 + 1, none⟩ = some (.string (BA (textL n1)))) (go_keep) (first | (go_at_call 17; refine (unhide HTX).mono ?_; rintro e w4 ⟨rfl, ⟨y0, y1⟩, b4⟩; have B4 := hide b4; clear b4))
  have BC4 := hide ((unhide BX3).trans ((unhide B4).mono (unhide BX3).size))
  have HE4 := hide ((unhide HEX).below (unhide BC4))
  have RX4 := hide ((unhide RX).below (unhide BC4) (by rw [unhide ZX]; exact Nat.le_refl _))
  have ZX4 := hide (show w2.heap.size + 1 ≤ w4.heap.size by have := (unhide BC4).size; have := unhide ZX; omega)
  have hs2 := set2 (unhide HA) (unhide HB)
  obtain ⟨n2, hn2⟩ : ∃ n, n = wrap64 (a + b) := ⟨_, rfl⟩
  have hi2 : I64 n2 := by rw [hn2]; exact i64_wrap _
  have hw2 : IntKind.i64.wrap (a + b) = n2 := by rw [hn2, IntKind.wrap_i64]; unfold wrap64; omega
  rw [← hn2] at hs2
  have HI2 := hide hi2
  have HS2 := hide hs2
  clear hn2 hi2 hs2 y0 y1 p3 q3
  go_wp2_with fail
  refine (eval_1 (unhide HA) (unhide HB) (l := setL2) (by decide) (unhide HS2) _ (w2.heap.size + 1) w4 (unhide RX4) (unhide ZX4) (unhide HE4)).mono ?_
  rintro e w5 ⟨⟨x5, o5, c5, rfl, p5, q5⟩, b5⟩
  have BC5 := hide ((unhide BC4).trans (b5.mono (unhide BC4).size))
  have HD5 := hide (((unhide HE4).below b5).below (below_of_grown (grown_drew' (World.grownBy.refl w5 none))))
  have HTY : Hid (Calls Tryz.prog 17 #[.int .i64 n2] w5.drew fun e w6 => e = .returned (.string (BA (textL n2))) ∧ (w6.cell? ⟨x5, o5, none⟩ = some (.string (BA [97])) ∧ w6.cell? ⟨x5, o5 + 1, none⟩ = some (.string (BA (textL n2)))) ∧ Below w5.heap.size w5 w6) := hide (by
    refine (text_any n2 w5.drew (unhide HD5) (unhide HI2)).mono ?_
    rintro e w6 ⟨rfl, b6⟩
    have b7 : Below w5.heap.size w5 w6 := (below_of_grown (grown_drew' (World.grownBy.refl w5 none))).trans b6
    exact ⟨rfl, ⟨(b7.cell (p := ⟨x5, o5, none⟩) (cell_lt p5)).trans p5, (b7.cell (p := ⟨x5, o5 + 1, none⟩) (cell_lt q5)).trans q5⟩, b7⟩)
  clear b5
  go_wp2_with fail
  go_region_held3 (fun w' => w'.cell? ⟨x5, o5, none⟩ = some (.string (BA [97])) ∧ w'.cell? ⟨x5, o5 + 1, none⟩ = some (.string (BA (textL n2)))) (go_keep) (first | (go_at_call 17; refine (unhide HTY).mono ?_; rintro e w6 ⟨rfl, ⟨z0, z1⟩, b6⟩; have B6 := hide b6; clear b6))
  have BC6 := hide ((unhide BC5).trans ((unhide B6).mono (unhide BC5).size))
  have HE6 := hide ((unhide HEX).below (unhide BC6))
  have RX6 := hide ((unhide RX).below (unhide BC6) (by rw [unhide ZX]; exact Nat.le_refl _))
  have ZX6 := hide (show w2.heap.size + 1 ≤ w6.heap.size by have := (unhide BC6).size; have := unhide ZX; omega)
  have hs3 := set3 (unhide HA) (unhide HB)
  clear z0 z1 p5 q5
  rcases Bool.eq_false_or_eq_true (a != 0) with h0 | h0
  · rw [h0, if_pos rfl] at hs3
    have HS3 := hide hs3
    have h1 : ¬ a = 0 := by simpa using h0
    clear hs3 h0
    go_wp2_with fail
    refine (eval_1 (unhide HA) (unhide HB) (l := setL3) (by decide) (unhide HS3) _ (w2.heap.size + 1) w6 (unhide RX6) (unhide ZX6) (unhide HE6)).mono ?_
    rintro e w7 ⟨⟨x7, o7, c7, rfl, p7o, q7⟩, b7⟩
    have p7 : w7.cell? ⟨x7, o7, none⟩ = some (.string ⟨#[120]⟩) := p7o
    have BC7 := hide ((unhide BC6).trans (b7.mono (unhide BC6).size))
    clear p7o q7 b7
    have HE7 := hide ((unhide HEX).below (unhide BC7))
    have RX7 := hide ((unhide RX).below (unhide BC7) (by rw [unhide ZX]; exact Nat.le_refl _))
    have ZX7 := hide (show w2.heap.size + 1 ≤ w7.heap.size by have := (unhide BC7).size; have := unhide ZX; omega)
    go_wp2_with fail
    · rename_i hx
      exact absurd (show a = 0 by simpa using hx) h1
    refine (eval_0 (unhide HA) (unhide HB) (l := setL4) (by decide) (set4 a b) _ (w2.heap.size + 1) w7 (unhide RX7) (unhide ZX7) (unhide HE7)).mono ?_
    rintro e w8 ⟨⟨x8, c8, rfl⟩, b8⟩
    have BC8 := hide ((unhide BC7).trans (b8.mono (unhide BC7).size))
    clear b8
    go_wp2_with fail
    refine (awake_any w8 ((unhide HEX).below (unhide BC8))).mono ?_
    rintro e w9 ⟨rfl, b9⟩
    have BC9 := hide ((unhide BC8).trans (b9.mono (unhide BC8).size))
    clear b9
    go_wp2
    go_ret
    exact ⟨rfl, (unhide BX).trans ((unhide BC9).mono (unhide BX).size)⟩
  · rw [h0, if_neg (by simp)] at hs3
    have HS3 := hide hs3
    have h1 : a = 0 := by simpa using h0
    clear hs3 h0
    subst h1
    go_wp2_with fail
    refine (eval_1 (unhide HA) (unhide HB) (l := setL3) (by decide) (unhide HS3) _ (w2.heap.size + 1) w6 (unhide RX6) (unhide ZX6) (unhide HE6)).mono ?_
    rintro e w7 ⟨⟨x7, o7, c7, rfl, p7o, q7⟩, b7⟩
    have p7 : w7.cell? ⟨x7, o7, none⟩ = some (.string ⟨#[121]⟩) := p7o
    have BC7 := hide ((unhide BC6).trans (b7.mono (unhide BC6).size))
    clear p7o q7 b7
    have HE7 := hide ((unhide HEX).below (unhide BC7))
    have RX7 := hide ((unhide RX).below (unhide BC7) (by rw [unhide ZX]; exact Nat.le_refl _))
    have ZX7 := hide (show w2.heap.size + 1 ≤ w7.heap.size by have := (unhide BC7).size; have := unhide ZX; omega)
    go_wp2_with fail
    refine (eval_0 (unhide HA) (unhide HB) (l := setL4) (by decide) (set4 0 b) _ (w2.heap.size + 1) w7 (unhide RX7) (unhide ZX7) (unhide HE7)).mono ?_
    rintro e w8 ⟨⟨x8, c8, rfl⟩, b8⟩
    have BC8 := hide ((unhide BC7).trans (b8.mono (unhide BC7).size))
    clear b8
    go_wp2_with fail
    refine (awake_any w8 ((unhide HEX).below (unhide BC8))).mono ?_
    rintro e w9 ⟨rfl, b9⟩
    have BC9 := hide ((unhide BC8).trans (b9.mono (unhide BC8).size))
    clear b9
    go_wp2
    go_ret
    exact ⟨rfl, (unhide BX).trans ((unhide BC9).mono (unhide BX).size)⟩

set_option maxRecDepth 100000 in
theorem arithSets_lifted (os : Os) (started : os.Started) (H : Type) (enc : TypeId × Value → H) :
    ReturnsInHanded {} Tryz.checked os 7 .any (fun w args => (Rows.arithSetsSpec.pre enc Tryz.prog Tryz.f7 [] false w args ∧ laidMetH Tryz.prog seatLaid w) ∧ sizedMet enc Tryz.prog Tryz.f7 (OpenSpec.ofChange Rows.arithSetsSpec) false w args)
      (Rows.arithSetsSpec.post enc Tryz.prog Tryz.f7 false true false false) := by
  refine law_lifted (C := Tryz.checked) (L := seatLaid) (tb := 4) own started (by kernel_rfl) Tryz.func7 laidOut rfl (read_of (by kernel_rfl)) (by kernel_rfl) Tryz.underlying4 ?_
    (ChangeSpec.witness_shaped (enc := enc) (C := Tryz.checked) (os := os) (X := fun w _ => laidMetH Tryz.prog seatLaid w) false (World.laidAll Tryz.prog os seatLaid) #[.int .i64 0, .int .i64 0] 8 (World.laidAll_os _ _ _)
      (World.shaped_of_ZipB (by kernel_rfl) (by kernel_rfl)) (by kernel_rfl) (by kernel_rfl) (by kernel_rfl) (door_met os _)) ?_
  · intro ds hds
    rw [show Tryz.f7.params.toList.length = 2 from by kernel_rfl] at hds
    match ds, hds with
    | [d0, d1], _ => rfl
  · intro W base args ds ps hval0 hA0 hL hsh
    have hval : ∀ (j : Nat) t v, Tryz.f7.params[j]? = some t → args[j]? = some v → Value.okWide Tryz.prog W .any base t v := hval0
    have hA : DataW.TrodAll enc Tryz.prog W 0 (fun _ => true) true Tryz.f7.params.toList args.toList ds ps := hA0
    rw [Tryz.params7] at hA hval
    obtain ⟨v0, v1, d0, d1, p0, p1, rfl, rfl, rfl, h0, h1⟩ := trodAll_two hA
    obtain ⟨a, rfl, rfl, rfl, wa⟩ := open_int Tryz.underlying3 (hval 0 3 v0 rfl rfl) h0
    obtain ⟨b, rfl, rfl, rfl, wb⟩ := open_int Tryz.underlying3 (hval 1 3 v1 rfl rfl) h1
    exact sets_walk a b W (env_of hL hsh) (i64_of_wf wa) (i64_of_wf wb)

theorem arithSets_row : Rows.ArithSetsSaid :=
  OpenClaim.holds_of_wide 7 Tryz.f7 rfl rfl rfl rfl rfl rfl rfl ⟨rfl, rfl, rfl, rfl, rfl⟩ rfl rfl rfl rfl rfl (by kernel_rfl) Tryz.func7 (by kernel_rfl)
    (of_decide_eq_true (by kernel_rfl)) (by unfold Func.isWrapper; first | (rw [if_pos (by decide +kernel)]; kernel_rfl) | (rw [if_neg (by decide +kernel)]; exact ⟨rfl, rfl⟩))
    (fun os started H enc _ => arithSets_lifted os started H enc)

theorem arithSets_holds : Rows.ArithSetsCardSaid :=
  Claim7.holds_tied_plain_at .later [] [.data, .data, .data, .data, .sentinel, .sentinel, .pinned] true (true, "a5c63b735f0707980e6a6b49a9b9466cb4e0ad6100d085c50bc295af36e29eb0") true
    arithSets_row (fun _ h => by cases h) (by kernel_rfl) (fun _ h => by cases h) arithSets_row_tie rfl ⟨rfl, rfl⟩ (by kernel_rfl) rfl
    (fun f fn hf hfn => by
      obtain rfl : f = 7 := Option.some.inj ((show Tryz.prog.funcNamed "conch/conchlaw03.ArithSets" = some 7 by kernel_rfl).symm.trans hf) |>.symm
      obtain rfl : fn = Tryz.f7 := (Option.some.inj (Tryz.func7.symm.trans hfn)).symm
      exact ⟨by kernel_rfl, fun j t ht => by
        rw [Tryz.params7] at ht
        have hm : t ∈ [3, 3] := by simpa using Array.mem_of_getElem? ht
        have hall : ([3, 3].all fun u => !Tryz.prog.wantsStandIn u) = true := by kernel_rfl
        exact (show Tryz.prog.wantsStandIn t = false by simpa using List.all_eq_true.1 hall t hm)⟩)
    (by kernel_rfl)
#print axioms arithSets_holds

end Go.Proofs.YtlbpeknncakfeaaGreatDoor

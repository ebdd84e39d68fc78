/-
  WordSames holds: of every two words, the program's Same answers as the document's does, and a word is the same as itself (of words of up to 600 parts and bytes); and the chapter's examples come out; of others the examples alone. No condition but what the row lists: the tables that the program lays.
-/
import Derived.Test.YtodcfgbcigjjfaaDoorWArgs
namespace Go.Proofs.YtodcfgbcigjjfaaDoor
open Go.ChangeShapes Go.WideShapes Go.ChangeAt Go.RowKit
open Go.ChangeMaps (open_string shut_string)

set_option maxRecDepth 20000 in
set_option maxHeartbeats 4000000 in
theorem sames_walk (x y : Value) (a b : List Prt) (w : World) (he : WEnv w) (hx : WAt w (fun k => k < w.heap.size) x a) (hy : WAt w (fun k => k < w.heap.size) y b) :
    Calls Tryd.prog 3 #[x, y] w fun e w' => e = .returned (.bool true) ∧ Below w.heap.size w w' := by
  have hd : ∀ m, Below w.heap.size w (w.drewN m) := fun m => below_drew w m
  have HSX : Hid (∀ W, (∃ m, W = w.drewN m) → Calls Tryd.prog 7 #[x] W fun e w' => e = .returned (.int .i64 (szL 0 a)) ∧ ∃ m, w' = w.drewN m) := hide (fun W hW => by
    obtain ⟨m, rfl⟩ := hW
    refine (size_all _ a x (w.drewN m) (fun k => k < w.heap.size) (Nat.le_refl _) (WAt.kept hx (w' := w.drewN m) (fun _ _ => rfl) (fun _ h => h))).mono ?_
    rintro e w' ⟨h1, m', h2⟩
    exact ⟨h1, _, by rw [h2, World.drewN_drewN]⟩)
  have HSY : Hid (∀ W, (∃ m, W = w.drewN m) → Calls Tryd.prog 7 #[y] W fun e w' => e = .returned (.int .i64 (szL 0 b)) ∧ ∃ m, w' = w.drewN m) := hide (fun W hW => by
    obtain ⟨m, rfl⟩ := hW
    refine (size_all _ b y (w.drewN m) (fun k => k < w.heap.size) (Nat.le_refl _) (WAt.kept hy (w' := w.drewN m) (fun _ _ => rfl) (fun _ h => h))).mono ?_
    rintro e w' ⟨h1, m', h2⟩
    exact ⟨h1, _, by rw [h2, World.drewN_drewN]⟩)
  have HAW : Hid (∀ W, Below w.heap.size w W → Calls Tryd.prog 8 #[] W fun e w' => e = .returned (.bool true) ∧ Below w.heap.size w w') := hide (fun W hW => (awake_any W (he.belw hW)).mono (fun e w' ⟨h1, h2⟩ => ⟨h1, hW.trans (h2.mono hW.size)⟩))
  have HS1 : Hid (∀ W, Below w.heap.size w W → Calls Tryd.prog 9 #[x, y] W fun e w' => e = .returned (.bool (sameW a b)) ∧ Below w.heap.size w w') := hide (fun W hW => (same_any a b x y W _ _ (hx.below hW (fun _ h => h)) (hy.below hW (fun _ h => h)) (fun k h => Nat.lt_of_lt_of_le h hW.size) (fun k h => Nat.lt_of_lt_of_le h hW.size)).mono (fun e w' ⟨h1, h2⟩ => ⟨h1, hW.trans (h2.mono hW.size)⟩))
  have HS2 : Hid (∀ W, Below w.heap.size w W → Calls Tryd.prog 10 #[x, y] W fun e w' => e = .returned (.bool (sameW a b)) ∧ Below w.heap.size w w') := hide (fun W hW => (rsame_any a b x y W _ _ (hx.below hW (fun _ h => h)) (hy.below hW (fun _ h => h)) (fun k h => Nat.lt_of_lt_of_le h hW.size) (fun k h => Nat.lt_of_lt_of_le h hW.size)).mono (fun e w' ⟨h1, h2⟩ => ⟨h1, hW.trans (h2.mono hW.size)⟩))
  have HS3 : Hid (∀ W, Below w.heap.size w W → Calls Tryd.prog 9 #[x, x] W fun e w' => e = .returned (.bool true) ∧ Below w.heap.size w w') := hide (fun W hW => by
    have := same_any a a x x W _ _ (hx.below hW (fun _ h => h)) (hx.below hW (fun _ h => h)) (fun k h => Nat.lt_of_lt_of_le h hW.size) (fun k h => Nat.lt_of_lt_of_le h hW.size)
    rw [sameW_refl] at this
    exact this.mono (fun e w' ⟨h1, h2⟩ => ⟨h1, hW.trans (h2.mono hW.size)⟩))
  have HD := hide hd
  obtain ⟨sm, hsm⟩ : ∃ z, z = sameW a b := ⟨_, rfl⟩
  rw [← hsm] at HS1 HS2
  obtain ⟨sa, hsa⟩ : ∃ z, z = szL 0 a := ⟨_, rfl⟩
  obtain ⟨sb, hsb⟩ : ∃ z, z = szL 0 b := ⟨_, rfl⟩
  rw [← hsa] at HSX
  rw [← hsb] at HSY
  clear he hx hy hd hsm hsa hsb
  go_enter Tryd.func3, Tryd.ntmps3
  go_wp2_with fail
  refine (unhide HSX _ ⟨0, rfl⟩).mono ?_
  rintro e w1 ⟨rfl, m1, hm1⟩
  have HB1 : Hid (Below w.heap.size w w1 ∧ ∃ m, w1 = w.drewN m) := hide ⟨by rw [hm1]; exact unhide HD _, m1, hm1⟩
  clear hm1
  by_cases h1 : (600 : Int) < sa
  · go_wp2_with fail
    refine (unhide HAW _ (unhide HB1).1).mono ?_
    rintro e w2 ⟨rfl, b2⟩
    have HB2 := hide b2
    clear b2
    go_wp2
    go_ret
    exact ⟨rfl, unhide HB2⟩
  · go_wp2_with fail
    refine (unhide HSY _ (unhide HB1).2).mono ?_
    rintro e w2 ⟨rfl, m2, hm2⟩
    have HB2 : Hid (Below w.heap.size w w2) := hide (by rw [hm2]; exact unhide HD _)
    clear hm2
    by_cases h2 : (600 : Int) < sb
    · go_wp2_with fail
      refine (unhide HAW _ (unhide HB2)).mono ?_
      rintro e w3 ⟨rfl, b3⟩
      have HB3 := hide b3
      clear b3
      go_wp2
      go_ret
      exact ⟨rfl, unhide HB3⟩
    · go_wp2_with fail
      refine (unhide HS1 _ (unhide HB2)).mono ?_
      rintro e w3 ⟨rfl, b3⟩
      have HB3 := hide b3
      clear b3
      go_wp2_with fail
      refine (unhide HS2 _ (unhide HB3)).mono ?_
      rintro e w4 ⟨rfl, b4⟩
      have HB4 := hide b4
      clear b4
      go_wp2_with fail
      refine (unhide HS3 _ (unhide HB4)).mono ?_
      rintro e w5 ⟨rfl, b5⟩
      have HB5 := hide b5
      clear b5
      go_wp2_with fail
      refine (unhide HAW _ (unhide HB5)).mono ?_
      rintro e w6 ⟨rfl, b6⟩
      have HB6 := hide b6
      clear b6
      go_wp2
      go_ret
      exact ⟨rfl, unhide HB6⟩

set_option maxRecDepth 100000 in
theorem wordSames_lifted (os : Os) (started : os.Started) (H : Type) (enc : TypeId × Value → H) :
    ReturnsInHanded {} Tryd.checked os 3 .any (fun w args => (Rows.wordSamesSpec.pre enc Tryd.prog Tryd.f3 [] false w args ∧ laidMetH Tryd.prog seatLaid w) ∧ sizedMet enc Tryd.prog Tryd.f3 (OpenSpec.ofChange Rows.wordSamesSpec) false w args)
      (Rows.wordSamesSpec.post enc Tryd.prog Tryd.f3 false true false false) := by
  refine law_lifted (C := Tryd.checked) (L := seatLaid) (tb := 4) own started (by kernel_rfl) Tryd.func3 laidOut rfl (read_of (by kernel_rfl)) (by kernel_rfl) Tryd.underlying4 ?_
    (ChangeSpec.witness_shaped (enc := enc) (C := Tryd.checked) (os := os) (X := fun w _ => laidMetH Tryd.prog seatLaid w) false (World.laidAll Tryd.prog os seatLaid) #[.slice none 0 0, .slice none 0 0] 8 (World.laidAll_os _ _ _)
      (World.shaped_of_ZipB (by kernel_rfl) (by kernel_rfl)) (by kernel_rfl) (by kernel_rfl) (by kernel_rfl) (door_met os _)) ?_
  · intro ds hds
    rw [show Tryd.f3.params.toList.length = 2 from by kernel_rfl] at hds
    match ds, hds with
    | [d0, d1], _ => rfl
  · intro W base args ds ps hval0 hA0 hL hsh
    have hval : ∀ (j : Nat) t v, Tryd.f3.params[j]? = some t → args[j]? = some v → Value.okWide Tryd.prog W .any base t v := hval0
    have hA : DataW.TrodAll enc Tryd.prog W 0 (fun _ => true) true Tryd.f3.params.toList args.toList ds ps := hA0
    rw [Tryd.params3] at hA hval
    obtain ⟨v0, v1, d0, d1, p0, p1, rfl, rfl, rfl, h0, h1⟩ := trodAll_two hA
    have k0 := okWide_slice Tryd.underlying23 (hval 0 23 v0 rfl rfl)
    obtain ⟨l0, hl0⟩ := words_of k0 h0
    have k1 := okWide_slice Tryd.underlying23 (hval 1 23 v1 rfl rfl)
    obtain ⟨l1, hl1⟩ := words_of k1 h1
    exact sames_walk v0 v1 l0 l1 W (env_of hL hsh) hl0 hl1

theorem wordSames_row : Rows.WordSamesSaid :=
  OpenClaim.holds_of_wide 3 Tryd.f3 rfl rfl rfl rfl rfl rfl rfl ⟨rfl, rfl, rfl, rfl, rfl⟩ rfl rfl rfl rfl rfl (by kernel_rfl) Tryd.func3 (by kernel_rfl)
    (of_decide_eq_true (by kernel_rfl)) (by unfold Func.isWrapper; first | (rw [if_pos (by decide +kernel)]; kernel_rfl) | (rw [if_neg (by decide +kernel)]; exact ⟨rfl, rfl⟩))
    (fun os started H enc _ => wordSames_lifted os started H enc)

theorem wordSames_holds : Rows.WordSamesCardSaid :=
  Claim7.holds_tied_plain_at .later [] [.data, .data, .data, .pinned] true (true, "f6cba15e1e3cb66c60d751b05b336cfb6796e2637e537df83c9abe52e761cfa9") false
    wordSames_row (fun _ h => by cases h) (by kernel_rfl) (fun _ h => by cases h) wordSames_row_tie rfl ⟨rfl, rfl⟩ (by kernel_rfl) rfl
    (fun f fn hf hfn => by
      obtain rfl : f = 3 := Option.some.inj ((show Tryd.prog.funcNamed "conch/conchlaw05.WordSames" = some 3 by kernel_rfl).symm.trans hf) |>.symm
      obtain rfl : fn = Tryd.f3 := (Option.some.inj (Tryd.func3.symm.trans hfn)).symm
      exact ⟨by kernel_rfl, fun j t ht => by
        rw [Tryd.params3] at ht
        have hm : t ∈ [23, 23] := by simpa using Array.mem_of_getElem? ht
        have hall : ([23, 23].all fun u => !Tryd.prog.wantsStandIn u) = true := by kernel_rfl
        exact (show Tryd.prog.wantsStandIn t = false by simpa using List.all_eq_true.1 hall t hm)⟩)
    (by kernel_rfl)
#print axioms wordSames_holds

end Go.Proofs.YtodcfgbcigjjfaaDoor

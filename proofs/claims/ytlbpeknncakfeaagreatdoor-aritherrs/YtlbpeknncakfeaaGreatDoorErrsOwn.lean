/-
  ArithErrs holds: an error answers and sets nothing, the same is worked out to the same, and the variables that are handed in stay; no condition beyond the card's own (the listed library variables, tied to the program's text).
-/
import Derived.Test.YtlbpeknncakfeaaGreatDoorOpen
namespace Go.Proofs.YtlbpeknncakfeaaGreatDoor
open Go.ChangeShapes Go.WideShapes Go.ChangeAt Go.RowKit
open Go.ChangeMaps (open_string)

theorem askS_err {F : List UInt8 → List UInt8} {s : List UInt8} {σ : St} {c : Int} (h : askS F s σ = .error c) : c = 10 := by
  unfold askS at h
  split at h
  · cases h
  · split at h
    · cases h; rfl
    · cases h
theorem apS_err {r : Except Int Int} {σ : St} {c : Int} (h : apS r σ = .error c) : r = .error c := by
  cases r with
  | error d => cases h; rfl
  | ok n => cases h
theorem evalS_err {F : List UInt8 → List UInt8} {c : Int} : ∀ {x : E} {σ : St}, evalS F x σ = .error c → c = 10 ∨ c = 13
  | .num n, σ, h => by cases h
  | .name s, σ, h => .inl (askS_err h)
  | .sign k x, σ, h => by
    rw [evalS] at h
    split at h
    · next c' hc => cases h; exact evalS_err hc
    · cases h
  | .op o x y, σ, h => by
    rw [evalS] at h
    split at h
    · next c' hc => cases h; exact evalS_err hc
    · split at h
      · exact .inr (applyS_err (apS_err h))
      · split at h
        · next c' hc => cases h; exact evalS_err hc
        · exact .inr (applyS_err (apS_err h))
  | .choice x y z, σ, h => by
    rw [evalS] at h
    split at h
    · next c' hc => cases h; exact evalS_err hc
    · split at h
      · exact evalS_err h
      · exact evalS_err h
  | .set s x, σ, h => by
    rw [evalS] at h
    split at h
    · next c' hc => cases h; exact evalS_err hc
    · cases h
  | .chg s o x, σ, h => by
    rw [evalS] at h
    split at h
    · next c' hc => cases h; exact evalS_err hc
    · split at h
      · next c' hc => cases h; exact .inl (askS_err hc)
      · exact .inr (applyS_err (apS_err h))
theorem evalL_err {vars : Pairs} {l : List UInt8} {c : Int} (hl : l.length ≤ 4096) (h : evalL vars l = .error c) : c = 10 ∨ c = 13 := by
  unfold evalL at h
  rw [if_neg (by omega)] at h
  split at h
  · cases h
  · split at h
    · cases h; exact .inl rfl
    · split at h
      · next hc => cases h; exact evalS_err hc
      · cases h

set_option maxRecDepth 20000 in
set_option maxHeartbeats 8000000 in
theorem errs_walk (l : List UInt8) (v : Value) (vars : Pairs) (w : World) (he : Env w) (hr : PRow w.heap.size w v vars) : Calls Tryz.prog 8 #[.string (BA l), v] w fun e w' => e = .returned (.bool true) ∧ Below w.heap.size w w' := by
  have HE := hide he
  have HR := hide hr
  obtain ⟨va, vcap, hvv, _, _⟩ := hr
  have hfew := few_any w.heap.size v vars w (unhide HR)
  clear he
  by_cases h6 : 600 < l.length
  · have h6' : (600 : Int) < (l.length : Int) := by omega
    subst hvv
    clear hfew
    go_enter Tryz.func8, Tryz.ntmps8
    go_wp2_with fail
    refine (awake_any w (unhide HE)).mono ?_
    rintro e w1 ⟨rfl, b1⟩
    go_wp2
    go_ret
    exact ⟨rfl, b1⟩
  · have h6' : ¬ (600 : Int) < (l.length : Int) := by omega
    rcases Bool.eq_false_or_eq_true (fewB vars) with hf | hf
    · rw [hf] at hfew
      have HF := hide hfew
      obtain ⟨hlen, hall⟩ := fewB_spec hf
      have hvl : ∀ p ∈ vars, p.2.length ≤ 100000 := fun p hp => by have := (hall p hp).2; omega
      have HEV := hide (fun (w' : World) (b : Below w.heap.size w w') => eval_any l vars v w.heap.size w' ((unhide HR).below b (Nat.le_refl _)) b.size (by omega) hvl ((unhide HE).below b))
      have HPL := hide (fun (w' : World) (b : Below w.heap.size w w') => plain_any w.heap.size v vars w' ((unhide HR).below b (Nat.le_refl _)) b.size (by omega))
      subst hvv
      clear hfew hf hall hvl
      go_enter Tryz.func8, Tryz.ntmps8
      go_wp2_with fail
      refine (unhide HF).mono ?_
      rintro e w9 ⟨rfl, hx9⟩
      have hx8 := hx9.symm
      subst hx8
      clear hx9
      go_wp2_with fail
      refine (unhide HPL w (Below.refl _ _)).mono ?_
      rintro e w1 ⟨v1, rfl, hr1, b1⟩
      obtain ⟨a1, cap1, rfl, _⟩ := id hr1
      have HR1 := hide hr1
      have B1 := hide b1
      clear hr1 b1
      go_wp2_with fail
      refine (unhide HEV w1 (unhide B1)).mono ?_
      rintro e w2 ⟨he2, b2⟩
      have B2 := hide ((unhide B1).trans (b2.mono (unhide B1).size))
      have HR2 := hide ((unhide HR1).below b2 (Nat.le_refl _))
      have HZ1 := hide b2.size
      clear b2
      rcases hq : evalL vars l with c | ⟨n, sets⟩
      · have hcc := evalL_err (by omega) hq
        rw [hq] at he2 HEV
        obtain ⟨he3, hc0⟩ := he2
        subst he3
        go_wp2_with fail
        refine (unhide HEV w2 (unhide B2)).mono ?_
        rintro e w3 ⟨⟨he3, _⟩, b3⟩
        subst he3
        have B3 := hide ((unhide B2).trans (b3.mono (unhide B2).size))
        have HR3 := hide ((unhide HR2).below b3 (unhide HZ1))
        have HZ2 := hide b3.size
        clear b3 hq
        rcases hcc with rfl | rfl
        all_goals
          go_wp2_with fail
          refine (plain_any 0 (.slice none 0 0) [] w3 (PRow.nil _ _) (by omega) (by simp)).mono ?_
          rintro e w4 ⟨v4, rfl, hr4, b4⟩
          have B4 := hide ((unhide B3).trans (b4.mono (unhide B3).size))
          have HR4 := hide hr4
          have HRW4 := hide ((unhide HR3).below b4 (Nat.le_trans (unhide HZ1) (unhide HZ2)))
          have HZ3 := hide b4.size
          clear hr4 b4
          go_wp2_with fail
          refine (plain_any 0 (.slice none 0 0) [] w4 (PRow.nil _ _) (by omega) (by simp)).mono ?_
          rintro e w5 ⟨v5, rfl, hr5, b5⟩
          have B5 := hide ((unhide B4).trans (b5.mono (unhide B4).size))
          have HR5 := hide hr5
          have HR45 := hide ((unhide HR4).below b5 (Nat.le_refl _))
          have HRW5 := hide ((unhide HRW4).below b5 (Nat.le_trans (unhide HZ1) (Nat.le_trans (unhide HZ2) (unhide HZ3))))
          have HZ4 := hide b5.size
          clear hr5 b5
          go_wp2_with fail
          refine (same_any _ _ v4 v5 [] w5 (unhide HR45) (unhide HR5) (unhide HZ4) (Nat.le_refl _)).mono ?_
          rintro e w6 ⟨rfl, b6⟩
          have B6 := hide ((unhide B5).trans (b6.mono (unhide B5).size))
          have HRW6 := hide ((unhide HRW5).below b6 (Nat.le_trans (unhide HZ1) (Nat.le_trans (unhide HZ2) (Nat.le_trans (unhide HZ3) (unhide HZ4)))))
          have HZ5 := hide b6.size
          clear b6
          go_wp2_with fail
          refine (unhide HPL w6 (unhide B6)).mono ?_
          rintro e w7 ⟨v7, rfl, hr7, b7⟩
          have B7 := hide ((unhide B6).trans (b7.mono (unhide B6).size))
          have HS16 := hide (Nat.le_trans (unhide HZ1) (Nat.le_trans (unhide HZ2) (Nat.le_trans (unhide HZ3) (Nat.le_trans (unhide HZ4) (unhide HZ5)))))
          have HRW7 := hide ((unhide HRW6).below b7 (unhide HS16))
          have HR7 := hide hr7
          have HZ6 := hide b7.size
          clear hr7 b7
          go_wp2_with fail
          refine (same_any _ _ v7 _ vars w7 (unhide HR7) (unhide HRW7) (Nat.le_refl _) (Nat.le_trans (unhide HS16) (unhide HZ6))).mono ?_
          rintro e w8 ⟨rfl, b8⟩
          have B8 := hide ((unhide B7).trans (b8.mono (unhide B7).size))
          clear b8
          go_wp2_with fail
          refine (awake_any w8 ((unhide HE).below (unhide B8))).mono ?_
          rintro e w10 ⟨rfl, b10⟩
          have B10 := hide ((unhide B8).trans (b10.mono (unhide B8).size))
          clear b10
          go_wp2
          go_ret
          exact ⟨rfl, unhide B10⟩
      · rw [hq] at he2 HEV
        obtain ⟨hi, hsl, sv2, he3, hrs2⟩ := he2
        subst he3
        obtain ⟨s2a, s2c, rfl, _⟩ := id hrs2
        have HRS2 := hide hrs2
        clear hrs2
        go_wp2_with fail
        refine (unhide HEV w2 (unhide B2)).mono ?_
        rintro e w3 ⟨⟨_, _, sv3, he3, hrs3⟩, b3⟩
        subst he3
        obtain ⟨s3a, s3c, rfl, _⟩ := id hrs3
        have B3 := hide ((unhide B2).trans (b3.mono (unhide B2).size))
        have HR3 := hide ((unhide HR2).below b3 (unhide HZ1))
        have HRS23 := hide ((unhide HRS2).below b3 (Nat.le_refl _))
        have HRS3 := hide hrs3
        have HZ2 := hide b3.size
        clear b3 hq hrs3
        go_wp2_with fail
        refine (plain_any _ _ sets w3 (unhide HRS23) (unhide HZ2) hsl).mono ?_
        rintro e w4 ⟨v4, rfl, hr4, b4⟩
        have B4 := hide ((unhide B3).trans (b4.mono (unhide B3).size))
        have HR4 := hide hr4
        have HRS34 := hide ((unhide HRS3).below b4 (Nat.le_refl _))
        have HRW4 := hide ((unhide HR3).below b4 (Nat.le_trans (unhide HZ1) (unhide HZ2)))
        have HZ3 := hide b4.size
        clear hr4 b4
        go_wp2_with fail
        refine (plain_any _ _ sets w4 (unhide HRS34) (unhide HZ3) hsl).mono ?_
        rintro e w5 ⟨v5, rfl, hr5, b5⟩
        have B5 := hide ((unhide B4).trans (b5.mono (unhide B4).size))
        have HR5 := hide hr5
        have HR45 := hide ((unhide HR4).below b5 (Nat.le_refl _))
        have HRW5 := hide ((unhide HRW4).below b5 (Nat.le_trans (unhide HZ1) (Nat.le_trans (unhide HZ2) (unhide HZ3))))
        have HZ4 := hide b5.size
        clear hr5 b5
        go_wp2_with fail
        refine (same_any _ _ v4 v5 sets w5 (unhide HR45) (unhide HR5) (unhide HZ4) (Nat.le_refl _)).mono ?_
        rintro e w6 ⟨rfl, b6⟩
        have B6 := hide ((unhide B5).trans (b6.mono (unhide B5).size))
        have HRW6 := hide ((unhide HRW5).below b6 (Nat.le_trans (unhide HZ1) (Nat.le_trans (unhide HZ2) (Nat.le_trans (unhide HZ3) (unhide HZ4)))))
        have HZ5 := hide b6.size
        clear b6
        go_wp2_with fail
        refine (unhide HPL w6 (unhide B6)).mono ?_
        rintro e w7 ⟨v7, rfl, hr7, b7⟩
        have B7 := hide ((unhide B6).trans (b7.mono (unhide B6).size))
        have HS16 := hide (Nat.le_trans (unhide HZ1) (Nat.le_trans (unhide HZ2) (Nat.le_trans (unhide HZ3) (Nat.le_trans (unhide HZ4) (unhide HZ5)))))
        have HRW7 := hide ((unhide HRW6).below b7 (unhide HS16))
        have HR7 := hide hr7
        have HZ6 := hide b7.size
        clear hr7 b7
        go_wp2_with fail
        refine (same_any _ _ v7 _ vars w7 (unhide HR7) (unhide HRW7) (Nat.le_refl _) (Nat.le_trans (unhide HS16) (unhide HZ6))).mono ?_
        rintro e w8 ⟨rfl, b8⟩
        have B8 := hide ((unhide B7).trans (b8.mono (unhide B7).size))
        clear b8
        go_wp2_with fail
        refine (awake_any w8 ((unhide HE).below (unhide B8))).mono ?_
        rintro e w10 ⟨rfl, b10⟩
        have B10 := hide ((unhide B8).trans (b10.mono (unhide B8).size))
        clear b10
        go_wp2
        go_ret
        exact ⟨rfl, unhide B10⟩
    · rw [hf] at hfew
      have HF := hide hfew
      subst hvv
      clear hfew hf
      go_enter Tryz.func8, Tryz.ntmps8
      go_wp2_with fail
      refine (unhide HF).mono ?_
      rintro e w9 ⟨rfl, hx9⟩
      have hx8 := hx9.symm
      subst hx8
      clear hx9
      go_wp2_with fail
      refine (awake_any w (unhide HE)).mono ?_
      rintro e w1 ⟨rfl, b1⟩
      go_wp2
      go_ret
      exact ⟨rfl, b1⟩

set_option maxRecDepth 100000 in
theorem arithErrs_lifted (os : Os) (started : os.Started) (H : Type) (enc : TypeId × Value → H) :
    ReturnsInHanded {} Tryz.checked os 8 .any (fun w args => (Rows.arithErrsSpec.pre enc Tryz.prog Tryz.f8 [] false w args ∧ laidMetH Tryz.prog seatLaid w) ∧ sizedMet enc Tryz.prog Tryz.f8 (OpenSpec.ofChange Rows.arithErrsSpec) false w args)
      (Rows.arithErrsSpec.post enc Tryz.prog Tryz.f8 false true false false) := by
  refine law_lifted (C := Tryz.checked) (L := seatLaid) (tb := 4) own started (by kernel_rfl) Tryz.func8 laidOut rfl (read_of (by kernel_rfl)) (by kernel_rfl) Tryz.underlying4 ?_
    (ChangeSpec.witness_shaped (enc := enc) (C := Tryz.checked) (os := os) (X := fun w _ => laidMetH Tryz.prog seatLaid w) false (World.laidAll Tryz.prog os seatLaid) #[.string ⟨#[]⟩, .slice none 0 0] 8 (World.laidAll_os _ _ _)
      (World.shaped_of_ZipB (by kernel_rfl) (by kernel_rfl)) (by kernel_rfl) (by kernel_rfl) (by kernel_rfl) (door_met os _)) ?_
  · intro ds hds
    rw [show Tryz.f8.params.toList.length = 2 from by kernel_rfl] at hds
    match ds, hds with
    | [d0, d1], _ => rfl
  · intro W base args ds ps hval0 hA0 hL hsh
    have hval : ∀ (j : Nat) t v, Tryz.f8.params[j]? = some t → args[j]? = some v → Value.okWide Tryz.prog W .any base t v := hval0
    have hA : DataW.TrodAll enc Tryz.prog W 0 (fun _ => true) true Tryz.f8.params.toList args.toList ds ps := hA0
    rw [Tryz.params8] at hA hval
    obtain ⟨v0, v1, d0, d1, p0, p1, rfl, rfl, rfl, h0, h1⟩ := trodAll_two hA
    obtain ⟨s, rfl, rfl, rfl, _⟩ := open_string Tryz.underlying9 (hval 0 9 v0 rfl rfl) h0
    have k1 := okWide_slice Tryz.underlying27 (hval 1 27 v1 rfl rfl)
    obtain ⟨l, hl⟩ := pairs_of k1 h1
    exact errs_walk s.data.toList v1 l W (env_of hL hsh) hl

theorem arithErrs_row : Rows.ArithErrsSaid :=
  OpenClaim.holds_of_wide 8 Tryz.f8 rfl rfl rfl rfl rfl rfl rfl ⟨rfl, rfl, rfl, rfl, rfl⟩ rfl rfl rfl rfl rfl (by kernel_rfl) Tryz.func8 (by kernel_rfl)
    (of_decide_eq_true (by kernel_rfl)) (by unfold Func.isWrapper; first | (rw [if_pos (by decide +kernel)]; kernel_rfl) | (rw [if_neg (by decide +kernel)]; exact ⟨rfl, rfl⟩))
    (fun os started H enc _ => arithErrs_lifted os started H enc)

theorem arithErrs_holds : Rows.ArithErrsCardSaid :=
  Claim7.holds_tied_plain_at .later [] [.data, .data, .data, .data, .sentinel, .sentinel, .pinned] true (true, "a5c63b735f0707980e6a6b49a9b9466cb4e0ad6100d085c50bc295af36e29eb0") true
    arithErrs_row (fun _ h => by cases h) (by kernel_rfl) (fun _ h => by cases h) arithErrs_row_tie rfl ⟨rfl, rfl⟩ (by kernel_rfl) rfl
    (fun f fn hf hfn => by
      obtain rfl : f = 8 := Option.some.inj ((show Tryz.prog.funcNamed "conch/conchlaw03.ArithErrs" = some 8 by kernel_rfl).symm.trans hf) |>.symm
      obtain rfl : fn = Tryz.f8 := (Option.some.inj (Tryz.func8.symm.trans hfn)).symm
      exact ⟨by kernel_rfl, fun j t ht => by
        rw [Tryz.params8] at ht
        have hm : t ∈ [9, 27] := by simpa using Array.mem_of_getElem? ht
        have hall : ([9, 27].all fun u => !Tryz.prog.wantsStandIn u) = true := by kernel_rfl
        exact (show Tryz.prog.wantsStandIn t = false by simpa using List.all_eq_true.1 hall t hm)⟩)
    (by kernel_rfl)
#print axioms arithErrs_holds

end Go.Proofs.YtlbpeknncakfeaaGreatDoor

/-
  ArithEvals holds: what an expression is, and what it sets, or that it is none, is what the document says; no condition beyond the card's own (the listed library variables, tied to the program's text).
-/
import Derived.Test.YtlbpeknncakfeaaGreatDoorEvEval
import Derived.Test.YtlbpeknncakfeaaGreatDoorOpen
namespace Go.Proofs.YtlbpeknncakfeaaGreatDoor
open Go.ChangeShapes Go.WideShapes Go.ChangeAt Go.RowKit
open Go.ChangeMaps (open_string)

set_option maxRecDepth 20000 in
set_option maxHeartbeats 4000000 in
/-- A text that is too long. -/
theorem eval_big (l : List UInt8) (va : Value) (w : World) (hl : 4096 < l.length) : Calls Tryz.prog 13 #[.string (BA l), va] w fun e w' => e = .returned (.tuple #[.int .i64 0, .slice none 0 0, .int .i64 3]) ∧ w' = w := by
  have hb' : (4096 : Int) < (l.length : Int) := by omega
  clear hl
  go_enter Tryz.func13, Tryz.ntmps13
  go_wp2
  go_ret3
  exact ⟨rfl, rfl⟩
theorem evalL_big {vars : Pairs} {l : List UInt8} (h : 4096 < l.length) : evalL vars l = .error 3 := by unfold evalL; rw [if_pos h]
theorem eval_all (l : List UInt8) (vars : Pairs) (va : Value) (n₀ : Nat) (w : World) (hv : PRow n₀ w va vars) (hn : n₀ ≤ w.heap.size) (hvl : ∀ p ∈ vars, p.2.length ≤ 100000) (he : Env w) :
    Calls Tryz.prog 13 #[.string (BA l), va] w fun e w' => EvalEnd (evalL vars l) e w' ∧ Below w.heap.size w w' := by
  by_cases h : 4096 < l.length
  · refine (eval_big l va w h).mono ?_
    rintro e w' ⟨rfl, rfl⟩
    rw [evalL_big h]
    exact ⟨⟨rfl, by decide⟩, Below.refl _ _⟩
  · exact eval_any l vars va n₀ w hv hn (by omega) hvl he

set_option maxRecDepth 20000 in
set_option maxHeartbeats 16000000 in
theorem evals_walk (l : List UInt8) (v : Value) (vars : Pairs) (w : World) (he : Env w) (hr : PRow w.heap.size w v vars) : Calls Tryz.prog 4 #[.string (BA l), v] w fun e w' => e = .returned (.bool true) ∧ Below w.heap.size w w' := by
  have HE := hide he
  have HR := hide hr
  obtain ⟨va, vcap, hvv, _, _⟩ := hr
  have hfew := few_any w.heap.size v vars w (unhide HR)
  clear he
  by_cases h6 : 600 < l.length ∧ l.length ≤ 4096
  · have h6' : (600 : Int) < (l.length : Int) := by omega
    have h7' : (l.length : Int) ≤ 4096 := by omega
    subst hvv
    clear hfew h6
    go_enter Tryz.func4, Tryz.ntmps4
    go_wp2_with fail
    refine (awake_any w (unhide HE)).mono ?_
    rintro e w1 ⟨rfl, b1⟩
    go_wp2
    go_ret
    exact ⟨rfl, b1⟩
  · rcases Bool.eq_false_or_eq_true (fewB vars) with hf | hf
    · rw [hf] at hfew
      have HF := hide hfew
      obtain ⟨hlen, hall⟩ := fewB_spec hf
      have hvl : ∀ p ∈ vars, p.2.length ≤ 100000 := fun p hp => by have := (hall p hp).2; omega
      have HVL := hide hvl
      have HEV := hide (eval_all l vars v w.heap.size w (unhide HR) (Nat.le_refl _) hvl (unhide HE))
      have HPL := hide (fun (w' : World) (b : Below w.heap.size w w') => plain_any w.heap.size v vars w' ((unhide HR).below b (Nat.le_refl _)) b.size (by omega))
      subst hvv
      clear hfew hf hall hvl
      have hcond : ((l.length : Int) ≤ 600) ∨ ((600 : Int) < (l.length : Int) ∧ (4096 : Int) < (l.length : Int)) := by omega
      clear h6
      rcases hcond with h6' | ⟨h6', h7'⟩
      all_goals
        go_enter Tryz.func4, Tryz.ntmps4
        go_wp2_with fail
        refine (unhide HF).mono ?_
        rintro e w9 ⟨rfl, hx9⟩
        have hx8 := hx9.symm
        subst hx8
        clear hx9
        go_wp2_with fail
        refine (unhide HEV).mono ?_
        rintro e w1 ⟨he1, b1⟩
        have B1 := hide b1
        clear b1
        rcases hq : evalL vars l with c | ⟨n, sets⟩
        · rw [hq] at he1
          obtain ⟨he3, hc0⟩ := he1
          subst he3
          have HC0 := hide hc0
          have hcb : (c == c) = true := by simp
          clear hc0
          go_wp2_with fail
          refine (unhide HPL w1 (unhide B1)).mono ?_
          rintro e w2 ⟨v2, rfl, hr2, b2⟩
          have B2 := hide ((unhide B1).trans (b2.mono (unhide B1).size))
          have HR2 := hide hr2
          obtain ⟨a2, cap2, rfl, _⟩ := id hr2
          clear hr2 b2
          go_wp2_with fail
          refine (reval_any (BA l) vars _ w2.heap.size w2 (unhide HR2) (Nat.le_refl _) (unhide HVL)).mono ?_
          rintro e w3 ⟨he3, b3⟩
          rw [BA_list, ← evalL_doc, hq] at he3
          obtain ⟨he3, _⟩ := he3
          subst he3
          have B3 := hide ((unhide B2).trans (b3.mono (unhide B2).size))
          clear b3 hq
          go_wp2_with fail
          refine (plain_any 0 (.slice none 0 0) [] w3 (PRow.nil _ _) (by omega) (by simp)).mono ?_
          rintro e w4 ⟨v4, rfl, hr4, b4⟩
          have B4 := hide ((unhide B3).trans (b4.mono (unhide B3).size))
          have HR4 := hide hr4
          clear hr4 b4
          go_wp2_with fail
          refine (same_any _ 0 v4 (.slice none 0 0) [] w4 (unhide HR4) (PRow.nil _ _) (Nat.le_refl _) (by omega)).mono ?_
          rintro e w5 ⟨rfl, b5⟩
          have B5 := hide ((unhide B4).trans (b5.mono (unhide B4).size))
          clear b5
          go_wp2_with fail
          refine (awake_any w5 ((unhide HE).below (unhide B5))).mono ?_
          rintro e w10 ⟨rfl, b10⟩
          have B10 := hide ((unhide B5).trans (b10.mono (unhide B5).size))
          clear b10
          go_wp2
          go_ret
          exact ⟨rfl, unhide B10⟩
        · rw [hq] at he1
          obtain ⟨hi, hsl, sv1, he3, hrs1⟩ := he1
          subst he3
          obtain ⟨s1a, s1c, rfl, _⟩ := id hrs1
          have HRS1 := hide hrs1
          clear hrs1
          go_wp2_with fail
          refine (unhide HPL w1 (unhide B1)).mono ?_
          rintro e w2 ⟨v2, rfl, hr2, b2⟩
          have B2 := hide ((unhide B1).trans (b2.mono (unhide B1).size))
          have HRS2 := hide ((unhide HRS1).below b2 (Nat.le_refl _))
          have HZ1 := hide b2.size
          have HR2 := hide hr2
          obtain ⟨a2, cap2, rfl, _⟩ := id hr2
          clear hr2 b2
          go_wp2_with fail
          refine (reval_any (BA l) vars _ w2.heap.size w2 (unhide HR2) (Nat.le_refl _) (unhide HVL)).mono ?_
          rintro e w3 ⟨he3, b3⟩
          rw [BA_list, ← evalL_doc, hq] at he3
          obtain ⟨_, _, sv3, he3, hrs3⟩ := he3
          subst he3
          obtain ⟨s3a, s3c, rfl, _⟩ := id hrs3
          have HRS3 := hide hrs3
          have B3 := hide ((unhide B2).trans (b3.mono (unhide B2).size))
          have HRS13 := hide ((unhide HRS2).below b3 (unhide HZ1))
          have HZ2 := hide b3.size
          clear b3 hq hrs3
          go_wp2_with fail
          refine (plain_any _ _ sets w3 (unhide HRS13) (Nat.le_trans (unhide HZ1) (unhide HZ2)) hsl).mono ?_
          rintro e w4 ⟨v4, rfl, hr4, b4⟩
          have B4 := hide ((unhide B3).trans (b4.mono (unhide B3).size))
          have HR4 := hide hr4
          have HRS34 := hide ((unhide HRS3).below b4 (Nat.le_refl _))
          have HZ3 := hide b4.size
          clear hr4 b4
          go_wp2_with fail
          refine (same_any _ _ v4 _ sets w4 (unhide HR4) (unhide HRS34) (Nat.le_refl _) (unhide HZ3)).mono ?_
          rintro e w5 ⟨rfl, b5⟩
          have B5 := hide ((unhide B4).trans (b5.mono (unhide B4).size))
          clear b5
          go_wp2_with fail
          refine (awake_any w5 ((unhide HE).below (unhide B5))).mono ?_
          rintro e w10 ⟨rfl, b10⟩
          have B10 := hide ((unhide B5).trans (b10.mono (unhide B5).size))
          clear b10
          go_wp2
          go_ret
          exact ⟨rfl, unhide B10⟩
    · rw [hf] at hfew
      have HF := hide hfew
      subst hvv
      clear hfew hf
      have hcond : ((l.length : Int) ≤ 600) ∨ ((600 : Int) < (l.length : Int) ∧ (4096 : Int) < (l.length : Int)) := by omega
      clear h6
      rcases hcond with h6' | ⟨h6', h7'⟩
      all_goals
        go_enter Tryz.func4, Tryz.ntmps4
        go_wp2_with fail
        refine (unhide HF).mono ?_
        rintro e w9 ⟨rfl, hx9⟩
        have hx8 := hx9.symm
        subst hx8
        clear hx9
        go_wp2_with fail
        refine (awake_any w (unhide HE)).mono ?_
        rintro e w1 ⟨rfl, b1⟩
        go_wp2
        go_ret
        exact ⟨rfl, b1⟩

set_option maxRecDepth 100000 in
theorem arithEvals_lifted (os : Os) (started : os.Started) (H : Type) (enc : TypeId × Value → H) :
    ReturnsInHanded {} Tryz.checked os 4 .any (fun w args => (Rows.arithEvalsSpec.pre enc Tryz.prog Tryz.f4 [] false w args ∧ laidMetH Tryz.prog seatLaid w) ∧ sizedMet enc Tryz.prog Tryz.f4 (OpenSpec.ofChange Rows.arithEvalsSpec) false w args)
      (Rows.arithEvalsSpec.post enc Tryz.prog Tryz.f4 false true false false) := by
  refine law_lifted (C := Tryz.checked) (L := seatLaid) (tb := 4) own started (by kernel_rfl) Tryz.func4 laidOut rfl (read_of (by kernel_rfl)) (by kernel_rfl) Tryz.underlying4 ?_
    (ChangeSpec.witness_shaped (enc := enc) (C := Tryz.checked) (os := os) (X := fun w _ => laidMetH Tryz.prog seatLaid w) false (World.laidAll Tryz.prog os seatLaid) #[.string ⟨#[]⟩, .slice none 0 0] 4 (World.laidAll_os _ _ _)
      (World.shaped_of_ZipB (by kernel_rfl) (by kernel_rfl)) (by kernel_rfl) (by kernel_rfl) (by kernel_rfl) (door_met os _)) ?_
  · intro ds hds
    rw [show Tryz.f4.params.toList.length = 2 from by kernel_rfl] at hds
    match ds, hds with
    | [d0, d1], _ => rfl
  · intro W base args ds ps hval0 hA0 hL hsh
    have hval : ∀ (j : Nat) t v, Tryz.f4.params[j]? = some t → args[j]? = some v → Value.okWide Tryz.prog W .any base t v := hval0
    have hA : DataW.TrodAll enc Tryz.prog W 0 (fun _ => true) true Tryz.f4.params.toList args.toList ds ps := hA0
    rw [Tryz.params4] at hA hval
    obtain ⟨v0, v1, d0, d1, p0, p1, rfl, rfl, rfl, h0, h1⟩ := trodAll_two hA
    obtain ⟨s, rfl, rfl, rfl, _⟩ := open_string Tryz.underlying9 (hval 0 9 v0 rfl rfl) h0
    have k1 := okWide_slice Tryz.underlying27 (hval 1 27 v1 rfl rfl)
    obtain ⟨l, hl⟩ := pairs_of k1 h1
    exact evals_walk s.data.toList v1 l W (env_of hL hsh) hl

theorem arithEvals_row : Rows.ArithEvalsSaid :=
  OpenClaim.holds_of_wide 4 Tryz.f4 rfl rfl rfl rfl rfl rfl rfl ⟨rfl, rfl, rfl, rfl, rfl⟩ rfl rfl rfl rfl rfl (by kernel_rfl) Tryz.func4 (by kernel_rfl)
    (of_decide_eq_true (by kernel_rfl)) (by unfold Func.isWrapper; first | (rw [if_pos (by decide +kernel)]; kernel_rfl) | (rw [if_neg (by decide +kernel)]; exact ⟨rfl, rfl⟩))
    (fun os started H enc _ => arithEvals_lifted os started H enc)

theorem arithEvals_holds : Rows.ArithEvalsCardSaid :=
  Claim7.holds_tied_plain_at .later [] [.data, .data, .data, .data, .sentinel, .sentinel, .pinned] true (true, "a5c63b735f0707980e6a6b49a9b9466cb4e0ad6100d085c50bc295af36e29eb0") true
    arithEvals_row (fun _ h => by cases h) (by kernel_rfl) (fun _ h => by cases h) arithEvals_row_tie rfl ⟨rfl, rfl⟩ (by kernel_rfl) rfl
    (fun f fn hf hfn => by
      obtain rfl : f = 4 := Option.some.inj ((show Tryz.prog.funcNamed "conch/conchlaw03.ArithEvals" = some 4 by kernel_rfl).symm.trans hf) |>.symm
      obtain rfl : fn = Tryz.f4 := (Option.some.inj (Tryz.func4.symm.trans hfn)).symm
      exact ⟨by kernel_rfl, fun j t ht => by
        rw [Tryz.params4] at ht
        have hm : t ∈ [9, 27] := by simpa using Array.mem_of_getElem? ht
        have hall : ([9, 27].all fun u => !Tryz.prog.wantsStandIn u) = true := by kernel_rfl
        exact (show Tryz.prog.wantsStandIn t = false by simpa using List.all_eq_true.1 hall t hm)⟩)
    (by kernel_rfl)
#print axioms arithEvals_holds

end Go.Proofs.YtlbpeknncakfeaaGreatDoor

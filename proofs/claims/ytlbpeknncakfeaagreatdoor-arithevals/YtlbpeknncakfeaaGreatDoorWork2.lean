/-
  An expression is worked out: operators between two sides.
-/
import Derived.Test.YtlbpeknncakfeaaGreatDoorWork
namespace Go.Proofs.YtlbpeknncakfeaaGreatDoor
open Go.RowKit Go.Maps

theorem enough_cases {o : Opr} (h : OprOk o) : o.enough = none ∨ o.enough = some 62 ∨ o.enough = some 64 := by
  rcases ops_cases h with rfl | rfl | rfl | rfl | rfl | rfl | rfl | rfl | rfl | rfl | rfl | rfl | rfl | rfl | rfl | rfl | rfl | rfl
  · exact .inr (.inl rfl)
  · exact .inr (.inr rfl)
  all_goals exact .inl rfl
theorem applyS_err {o : Opr} {a b c : Int} (h : applyS o a b = .error c) : c = 13 := by
  unfold applyS at h
  split at h
  · cases h; rfl
  · cases h
theorem applyS_ok {o : Opr} {a b n : Int} (ha : I64 a) (h : applyS o a b = .ok n) : I64 n := by
  unfold applyS at h
  split at h
  · cases h
  · cases h; exact i64_do ha _ _

theorem neq_nil (w : World) : (binOp BinOp.neq 98 .nilFunc .nilFunc).run Tryz.prog w = .ok (.bool false) w := by kernel_rfl
theorem neq_62 (w : World) : (binOp BinOp.neq 98 (.func (.func 62) #[] #[]) .nilFunc).run Tryz.prog w = .ok (.bool true) w := by kernel_rfl
theorem neq_64 (w : World) : (binOp BinOp.neq 98 (.func (.func 64) #[] #[]) .nilFunc).run Tryz.prog w = .ok (.bool true) w := by kernel_rfl

set_option maxRecDepth 20000 in
set_option maxHeartbeats 8000000 in
theorem work_op (kb mb vb lo : Nat) (vars : List (List UInt8 × List UInt8)) (va : Value) (o : Opr) (x y : E) (ihx : ∀ v w M σ sv, Sc w kb mb vb vars va M σ sv → Rep lo mb w x v → M + cost x ≤ 100000 → Works kb mb vb vars va x v w M σ)
    (ihy : ∀ v w M σ sv, Sc w kb mb vb vars va M σ sv → Rep lo mb w y v → M + cost y ≤ 100000 → Works kb mb vb vars va y v w M σ) :
    ∀ v w M σ sv, Sc w kb mb vb vars va M σ sv → Rep lo mb w (.op o x y) v → M + (cost x + cost y) ≤ 100000 → Works kb mb vb vars va (.op o x y) v w M σ := by
  rintro v w M σ sv hS ⟨b1, b2, b3, v1, v2, h1, h2, h3, hr1, hr2, hok, rfl⟩ hM
  refine ⟨_, _, rfl, fun args w => by kernel_rfl, ?_⟩
  obtain ⟨k1, caps1, rfl, hcall, hw1⟩ := ihx v1 w M σ sv hS hr1 (by omega)
  have c1 : w.cell? ⟨b1, 0, none⟩ = some (.func (.func k1) #[] caps1) := h1.2.2.cell 0 rfl
  have IY := hide ihy
  have HR2 := hide hr2
  have HB2 := hide h2
  have HB3 := hide h3
  have hen := enough_cases hok
  have HAP : Hid (∀ a b w, Calls Tryz.prog 117 #[.agg #[.int .i64 o.rank, .func (.func o.fn) #[] #[], enoughV o.enough, .bool o.div], .int .i64 a, .int .i64 b] w fun e w' => ApEnd (applyS o a b) e ∧ Below w.heap.size w w') := hide (fun a b w => apply_any o hok a b w)
  have HE : Hid (evalS (findV vars) (.op o x y) σ = match evalS (findV vars) x σ with | .error c => .error c | .ok (a, σ1) => if enoughB o a then apS (applyS o a 0) σ1 else match evalS (findV vars) y σ1 with | .error c => .error c | .ok (b, σ2) => apS (applyS o a b) σ2) := hide rfl
  rcases hq : evalS (findV vars) x σ with c | ⟨a, σ1⟩
  · rw [hq] at hw1
    have HE2 : Hid (evalS (findV vars) (.op o x y) σ = .error c) := hide (by rw [unhide HE, hq])
    have HW := hide hw1
    clear hS h1 h2 h3 hr1 hr2 hw1 hq ihx ihy hen hok
    unfold at0
    go_enter Tryz.func142, Tryz.ntmps142
    go_wp2_with fail
    refine (unhide HW).mono ?_
    rintro e w1 ⟨hb1, he, hc⟩
    subst he
    have hc2 : (c == 0) = false := by simpa using hc
    have HB := hide hb1
    have HC := hide hc
    clear hb1 hc
    go_wp2
    go_ret2
    refine ⟨unhide HB, ?_⟩
    rw [unhide HE2]
    exact ⟨rfl, unhide HC⟩
  · rw [hq] at hw1
    have HE2 : Hid (evalS (findV vars) (.op o x y) σ = if enoughB o a then apS (applyS o a 0) σ1 else match evalS (findV vars) y σ1 with | .error c => .error c | .ok (b, σ2) => apS (applyS o a b) σ2) := hide (by rw [unhide HE, hq])
    have HW := hide hw1
    have hmb := hS.lt2
    have hkl := hS.blk.lt
    clear hS h1 h2 h3 hr1 hr2 hw1 hq ihx ihy hok HE
    unfold at0
    rcases hen with hen | hen | hen
    · have HBK := hide (unhide HB2).2.2
      have HBKL := hide (unhide HB2).2.1
      have HEN : Hid (enoughV o.enough = .nilFunc) := hide (by rw [hen]; rfl)
      have HOE := hide hen
      have hnn := neq_nil
      have hn2 := neq_62
      have hn4 := neq_64
      clear hen
      go_enter Tryz.func142, Tryz.ntmps142
      go_wp2_with fail
      refine (unhide HW).mono ?_
      rintro e w1 ⟨hb1, he, hc⟩
      subst he
      have hb2 := (unhide HB2).2.2.below hb1 (unhide HB2).2.1
      have q0 : w1.cell? ⟨b2, 0, none⟩ = some (.int .i64 o.rank) := hb2.cell 0 rfl
      have q1 : w1.cell? ⟨b2, 1, none⟩ = some (.func (.func o.fn) #[] #[]) := hb2.cell 1 rfl
      have q2 : w1.cell? ⟨b2, 2, none⟩ = some (enoughV o.enough) := hb2.cell 2 rfl
      have q3 : w1.cell? ⟨b2, 3, none⟩ = some (.bool o.div) := hb2.cell 3 rfl
      have q4 := ((unhide HB3).2.2.below hb1 (unhide HB3).2.1)
      rw [unhide HEN] at q2
      have HAP2 := HAP
      rw [unhide HEN] at HAP2
      have HR2b := hide ((unhide HR2).below hb1)
      have HB := hide hb1
      have HC := hide hc
      clear hb1 hc hb2
      have HE3 : Hid (evalS (findV vars) (.op o x y) σ = match evalS (findV vars) y σ1 with | .error c => .error c | .ok (b, σ2) => apS (applyS o a b) σ2) := hide (by rw [unhide HE2, show enoughB o a = false by unfold enoughB; rw [unhide HOE]]; rfl)
      obtain ⟨sv1, hS1⟩ := (unhide HC).2
      obtain ⟨k2, caps2, rfl, hcall2, hw2⟩ := unhide IY v2 w1 (M + cost x) σ1 sv1 hS1 (unhide HR2b) (by omega)
      have q5 : w1.cell? ⟨b3, 0, none⟩ = some (.func (.func k2) #[] caps2) := q4.cell 0 rfl
      clear q4
      rcases hq2 : evalS (findV vars) y σ1 with c | ⟨b, σ2⟩
      · rw [hq2] at hw2
        have HE4 : Hid (evalS (findV vars) (.op o x y) σ = .error c) := hide (by rw [unhide HE3, hq2])
        have HW2 := hide hw2
        clear hw2 hq2 hS1
        go_wp2_with fail
        refine (unhide HW2).mono ?_
        rintro e w2 ⟨hb2, he, hc⟩
        subst he
        have hc2 : (c == 0) = false := by simpa using hc
        have HB2 := hide hb2
        have HC2 := hide hc
        clear hb2 hc
        go_wp2
        go_ret2
        refine ⟨(unhide HB).trans (unhide HB2), ?_⟩
        rw [unhide HE4]
        exact ⟨rfl, unhide HC2⟩
      · rw [hq2] at hw2
        have HE4 : Hid (evalS (findV vars) (.op o x y) σ = apS (applyS o a b) σ2) := hide (by rw [unhide HE3, hq2])
        have HW2 := hide hw2
        clear hw2 hq2 hS1
        go_wp2_with fail
        refine (unhide HW2).mono ?_
        rintro e w2 ⟨hb2, he, hc⟩
        subst he
        have hbb := (unhide HB).trans hb2
        have hbk := (unhide HBK).below hbb (unhide HBKL)
        have r0 : w2.cell? ⟨b2, 0, none⟩ = some (.int .i64 o.rank) := hbk.cell 0 rfl
        have r1 : w2.cell? ⟨b2, 1, none⟩ = some (.func (.func o.fn) #[] #[]) := hbk.cell 1 rfl
        have r2 : w2.cell? ⟨b2, 2, none⟩ = some (enoughV o.enough) := hbk.cell 2 rfl
        have r3 : w2.cell? ⟨b2, 3, none⟩ = some (.bool o.div) := hbk.cell 3 rfl
        rw [unhide HEN] at r2
        have HB2 := hide hb2
        have HC2 := hide hc
        clear hb2 hc hbb hbk
        go_wp2_with fail
        refine (unhide HAP2 a b w2).mono ?_
        rintro e w3 ⟨he, b3⟩
        have B3 := hide b3
        clear b3
        rcases hq3 : applyS o a b with c | n
        · rw [hq3] at he
          have he2 : e = .returned (.tuple #[.int .i64 0, .int .i64 c]) := he
          subst he2
          have hc := applyS_err hq3
          have HE5 : Hid (evalS (findV vars) (.op o x y) σ = .error c) := hide (by rw [unhide HE4, hq3]; rfl)
          clear he hq3
          subst hc
          go_wp2
          go_ret2
          refine ⟨((unhide HB).trans (unhide HB2)).trans ((unhide B3).mono (by have := (unhide HB).size; have := (unhide HB2).size; omega)), ?_⟩
          rw [unhide HE5]
          exact ⟨rfl, by decide⟩
        · rw [hq3] at he
          have he2 : e = .returned (.tuple #[.int .i64 n, .int .i64 0]) := he
          subst he2
          have hn := applyS_ok (unhide HC).1 hq3
          have HE5 : Hid (evalS (findV vars) (.op o x y) σ = .ok (n, σ2)) := hide (by rw [unhide HE4, hq3]; rfl)
          have HN := hide hn
          clear he hq3 hn
          go_wp2
          go_ret2
          refine ⟨((unhide HB).trans (unhide HB2)).trans ((unhide B3).mono (by have := (unhide HB).size; have := (unhide HB2).size; omega)), ?_⟩
          rw [unhide HE5]
          obtain ⟨sv2, hS2⟩ := (unhide HC2).2
          exact ⟨rfl, unhide HN, sv2, (hS2.below (unhide B3)).mono (by simp only [cost]; omega)⟩
    · have HBK := hide (unhide HB2).2.2
      have HBKL := hide (unhide HB2).2.1
      have HEN : Hid (enoughV o.enough = .func (.func 62) #[] #[]) := hide (by rw [hen]; rfl)
      have HOE := hide hen
      have hnn := neq_nil
      have hn2 := neq_62
      have hn4 := neq_64
      clear hen
      go_enter Tryz.func142, Tryz.ntmps142
      go_wp2_with fail
      refine (unhide HW).mono ?_
      rintro e w1 ⟨hb1, he, hc⟩
      subst he
      have hb2 := (unhide HB2).2.2.below hb1 (unhide HB2).2.1
      have q0 : w1.cell? ⟨b2, 0, none⟩ = some (.int .i64 o.rank) := hb2.cell 0 rfl
      have q1 : w1.cell? ⟨b2, 1, none⟩ = some (.func (.func o.fn) #[] #[]) := hb2.cell 1 rfl
      have q2 : w1.cell? ⟨b2, 2, none⟩ = some (enoughV o.enough) := hb2.cell 2 rfl
      have q3 : w1.cell? ⟨b2, 3, none⟩ = some (.bool o.div) := hb2.cell 3 rfl
      have q4 := ((unhide HB3).2.2.below hb1 (unhide HB3).2.1)
      rw [unhide HEN] at q2
      have HAP2 := HAP
      rw [unhide HEN] at HAP2
      have HR2b := hide ((unhide HR2).below hb1)
      have HB := hide hb1
      have HC := hide hc
      clear hb1 hc hb2
      have hee : enoughB o a = (a != 0) := by unfold enoughB; rw [unhide HOE]; rfl
      rcases Bool.eq_false_or_eq_true (a != 0) with hea | hea
      · have HE3 : Hid (evalS (findV vars) (.op o x y) σ = apS (applyS o a 0) σ1) := hide (by rw [unhide HE2, hee, hea]; rfl)
        clear hee q4
        have HE4 : Hid (evalS (findV vars) (.op o x y) σ = apS (applyS o a 0) σ1) := HE3
        go_wp2_with fail
        refine (holds_any a _).mono ?_
        rintro e w9 ⟨rfl, hx9⟩
        have hx8 := hx9.symm
        subst hx8
        clear hx9
        rw [hea]
        go_wp2_with fail
        refine (unhide HAP2 a 0 w1).mono ?_
        rintro e w3 ⟨he, b3⟩
        have B3 := hide b3
        clear b3
        rcases hq3 : applyS o a 0 with c | n
        · rw [hq3] at he
          have he2 : e = .returned (.tuple #[.int .i64 0, .int .i64 c]) := he
          subst he2
          have hc := applyS_err hq3
          have HE5 : Hid (evalS (findV vars) (.op o x y) σ = .error c) := hide (by rw [unhide HE4, hq3]; rfl)
          clear he hq3
          subst hc
          go_wp2
          go_ret2
          refine ⟨(unhide HB).trans ((unhide B3).mono (by have := (unhide HB).size; omega)), ?_⟩
          rw [unhide HE5]
          exact ⟨rfl, by decide⟩
        · rw [hq3] at he
          have he2 : e = .returned (.tuple #[.int .i64 n, .int .i64 0]) := he
          subst he2
          have hn := applyS_ok (unhide HC).1 hq3
          have HE5 : Hid (evalS (findV vars) (.op o x y) σ = .ok (n, σ1)) := hide (by rw [unhide HE4, hq3]; rfl)
          have HN := hide hn
          clear he hq3 hn
          go_wp2
          go_ret2
          refine ⟨(unhide HB).trans ((unhide B3).mono (by have := (unhide HB).size; omega)), ?_⟩
          rw [unhide HE5]
          obtain ⟨sv2, hS2⟩ := (unhide HC).2
          exact ⟨rfl, unhide HN, sv2, (hS2.below (unhide B3)).mono (by simp only [cost]; omega)⟩
      · have HE3 : Hid (evalS (findV vars) (.op o x y) σ = match evalS (findV vars) y σ1 with | .error c => .error c | .ok (b, σ2) => apS (applyS o a b) σ2) := hide (by rw [unhide HE2, hee, hea]; rfl)
        clear hee
        obtain ⟨sv1, hS1⟩ := (unhide HC).2
        obtain ⟨k2, caps2, rfl, hcall2, hw2⟩ := unhide IY v2 w1 (M + cost x) σ1 sv1 hS1 (unhide HR2b) (by omega)
        have q5 : w1.cell? ⟨b3, 0, none⟩ = some (.func (.func k2) #[] caps2) := q4.cell 0 rfl
        clear q4
        rcases hq2 : evalS (findV vars) y σ1 with c | ⟨b, σ2⟩
        · rw [hq2] at hw2
          have HE4 : Hid (evalS (findV vars) (.op o x y) σ = .error c) := hide (by rw [unhide HE3, hq2])
          have HW2 := hide hw2
          clear hw2 hq2 hS1
          go_wp2_with fail
          refine (holds_any a _).mono ?_
          rintro e w9 ⟨rfl, hx9⟩
          have hx8 := hx9.symm
          subst hx8
          clear hx9
          rw [hea]
          go_wp2_with fail
          refine (unhide HW2).mono ?_
          rintro e w2 ⟨hb2, he, hc⟩
          subst he
          have hc2 : (c == 0) = false := by simpa using hc
          have HB2 := hide hb2
          have HC2 := hide hc
          clear hb2 hc
          go_wp2
          go_ret2
          refine ⟨(unhide HB).trans (unhide HB2), ?_⟩
          rw [unhide HE4]
          exact ⟨rfl, unhide HC2⟩
        · rw [hq2] at hw2
          have HE4 : Hid (evalS (findV vars) (.op o x y) σ = apS (applyS o a b) σ2) := hide (by rw [unhide HE3, hq2])
          have HW2 := hide hw2
          clear hw2 hq2 hS1
          go_wp2_with fail
          refine (holds_any a _).mono ?_
          rintro e w9 ⟨rfl, hx9⟩
          have hx8 := hx9.symm
          subst hx8
          clear hx9
          rw [hea]
          go_wp2_with fail
          refine (unhide HW2).mono ?_
          rintro e w2 ⟨hb2, he, hc⟩
          subst he
          have hbb := (unhide HB).trans hb2
          have hbk := (unhide HBK).below hbb (unhide HBKL)
          have r0 : w2.cell? ⟨b2, 0, none⟩ = some (.int .i64 o.rank) := hbk.cell 0 rfl
          have r1 : w2.cell? ⟨b2, 1, none⟩ = some (.func (.func o.fn) #[] #[]) := hbk.cell 1 rfl
          have r2 : w2.cell? ⟨b2, 2, none⟩ = some (enoughV o.enough) := hbk.cell 2 rfl
          have r3 : w2.cell? ⟨b2, 3, none⟩ = some (.bool o.div) := hbk.cell 3 rfl
          rw [unhide HEN] at r2
          have HB2 := hide hb2
          have HC2 := hide hc
          clear hb2 hc hbb hbk
          go_wp2_with fail
          refine (unhide HAP2 a b w2).mono ?_
          rintro e w3 ⟨he, b3⟩
          have B3 := hide b3
          clear b3
          rcases hq3 : applyS o a b with c | n
          · rw [hq3] at he
            have he2 : e = .returned (.tuple #[.int .i64 0, .int .i64 c]) := he
            subst he2
            have hc := applyS_err hq3
            have HE5 : Hid (evalS (findV vars) (.op o x y) σ = .error c) := hide (by rw [unhide HE4, hq3]; rfl)
            clear he hq3
            subst hc
            go_wp2
            go_ret2
            refine ⟨((unhide HB).trans (unhide HB2)).trans ((unhide B3).mono (by have := (unhide HB).size; have := (unhide HB2).size; omega)), ?_⟩
            rw [unhide HE5]
            exact ⟨rfl, by decide⟩
          · rw [hq3] at he
            have he2 : e = .returned (.tuple #[.int .i64 n, .int .i64 0]) := he
            subst he2
            have hn := applyS_ok (unhide HC).1 hq3
            have HE5 : Hid (evalS (findV vars) (.op o x y) σ = .ok (n, σ2)) := hide (by rw [unhide HE4, hq3]; rfl)
            have HN := hide hn
            clear he hq3 hn
            go_wp2
            go_ret2
            refine ⟨((unhide HB).trans (unhide HB2)).trans ((unhide B3).mono (by have := (unhide HB).size; have := (unhide HB2).size; omega)), ?_⟩
            rw [unhide HE5]
            obtain ⟨sv2, hS2⟩ := (unhide HC2).2
            exact ⟨rfl, unhide HN, sv2, (hS2.below (unhide B3)).mono (by simp only [cost]; omega)⟩
    · have HBK := hide (unhide HB2).2.2
      have HBKL := hide (unhide HB2).2.1
      have HEN : Hid (enoughV o.enough = .func (.func 64) #[] #[]) := hide (by rw [hen]; rfl)
      have HOE := hide hen
      have hnn := neq_nil
      have hn2 := neq_62
      have hn4 := neq_64
      clear hen
      go_enter Tryz.func142, Tryz.ntmps142
      go_wp2_with fail
      refine (unhide HW).mono ?_
      rintro e w1 ⟨hb1, he, hc⟩
      subst he
      have hb2 := (unhide HB2).2.2.below hb1 (unhide HB2).2.1
      have q0 : w1.cell? ⟨b2, 0, none⟩ = some (.int .i64 o.rank) := hb2.cell 0 rfl
      have q1 : w1.cell? ⟨b2, 1, none⟩ = some (.func (.func o.fn) #[] #[]) := hb2.cell 1 rfl
      have q2 : w1.cell? ⟨b2, 2, none⟩ = some (enoughV o.enough) := hb2.cell 2 rfl
      have q3 : w1.cell? ⟨b2, 3, none⟩ = some (.bool o.div) := hb2.cell 3 rfl
      have q4 := ((unhide HB3).2.2.below hb1 (unhide HB3).2.1)
      rw [unhide HEN] at q2
      have HAP2 := HAP
      rw [unhide HEN] at HAP2
      have HR2b := hide ((unhide HR2).below hb1)
      have HB := hide hb1
      have HC := hide hc
      clear hb1 hc hb2
      have hee : enoughB o a = (a == 0) := by unfold enoughB; rw [unhide HOE]; rfl
      rcases Bool.eq_false_or_eq_true (a == 0) with hea | hea
      · have HE3 : Hid (evalS (findV vars) (.op o x y) σ = apS (applyS o a 0) σ1) := hide (by rw [unhide HE2, hee, hea]; rfl)
        clear hee q4
        have HE4 : Hid (evalS (findV vars) (.op o x y) σ = apS (applyS o a 0) σ1) := HE3
        go_wp2_with fail
        refine (fails_any a _).mono ?_
        rintro e w9 ⟨rfl, hx9⟩
        have hx8 := hx9.symm
        subst hx8
        clear hx9
        rw [hea]
        go_wp2_with fail
        refine (unhide HAP2 a 0 w1).mono ?_
        rintro e w3 ⟨he, b3⟩
        have B3 := hide b3
        clear b3
        rcases hq3 : applyS o a 0 with c | n
        · rw [hq3] at he
          have he2 : e = .returned (.tuple #[.int .i64 0, .int .i64 c]) := he
          subst he2
          have hc := applyS_err hq3
          have HE5 : Hid (evalS (findV vars) (.op o x y) σ = .error c) := hide (by rw [unhide HE4, hq3]; rfl)
          clear he hq3
          subst hc
          go_wp2
          go_ret2
          refine ⟨(unhide HB).trans ((unhide B3).mono (by have := (unhide HB).size; omega)), ?_⟩
          rw [unhide HE5]
          exact ⟨rfl, by decide⟩
        · rw [hq3] at he
          have he2 : e = .returned (.tuple #[.int .i64 n, .int .i64 0]) := he
          subst he2
          have hn := applyS_ok (unhide HC).1 hq3
          have HE5 : Hid (evalS (findV vars) (.op o x y) σ = .ok (n, σ1)) := hide (by rw [unhide HE4, hq3]; rfl)
          have HN := hide hn
          clear he hq3 hn
          go_wp2
          go_ret2
          refine ⟨(unhide HB).trans ((unhide B3).mono (by have := (unhide HB).size; omega)), ?_⟩
          rw [unhide HE5]
          obtain ⟨sv2, hS2⟩ := (unhide HC).2
          exact ⟨rfl, unhide HN, sv2, (hS2.below (unhide B3)).mono (by simp only [cost]; omega)⟩
      · have HE3 : Hid (evalS (findV vars) (.op o x y) σ = match evalS (findV vars) y σ1 with | .error c => .error c | .ok (b, σ2) => apS (applyS o a b) σ2) := hide (by rw [unhide HE2, hee, hea]; rfl)
        clear hee
        obtain ⟨sv1, hS1⟩ := (unhide HC).2
        obtain ⟨k2, caps2, rfl, hcall2, hw2⟩ := unhide IY v2 w1 (M + cost x) σ1 sv1 hS1 (unhide HR2b) (by omega)
        have q5 : w1.cell? ⟨b3, 0, none⟩ = some (.func (.func k2) #[] caps2) := q4.cell 0 rfl
        clear q4
        rcases hq2 : evalS (findV vars) y σ1 with c | ⟨b, σ2⟩
        · rw [hq2] at hw2
          have HE4 : Hid (evalS (findV vars) (.op o x y) σ = .error c) := hide (by rw [unhide HE3, hq2])
          have HW2 := hide hw2
          clear hw2 hq2 hS1
          go_wp2_with fail
          refine (fails_any a _).mono ?_
          rintro e w9 ⟨rfl, hx9⟩
          have hx8 := hx9.symm
          subst hx8
          clear hx9
          rw [hea]
          go_wp2_with fail
          refine (unhide HW2).mono ?_
          rintro e w2 ⟨hb2, he, hc⟩
          subst he
          have hc2 : (c == 0) = false := by simpa using hc
          have HB2 := hide hb2
          have HC2 := hide hc
          clear hb2 hc
          go_wp2
          go_ret2
          refine ⟨(unhide HB).trans (unhide HB2), ?_⟩
          rw [unhide HE4]
          exact ⟨rfl, unhide HC2⟩
        · rw [hq2] at hw2
          have HE4 : Hid (evalS (findV vars) (.op o x y) σ = apS (applyS o a b) σ2) := hide (by rw [unhide HE3, hq2])
          have HW2 := hide hw2
          clear hw2 hq2 hS1
          go_wp2_with fail
          refine (fails_any a _).mono ?_
          rintro e w9 ⟨rfl, hx9⟩
          have hx8 := hx9.symm
          subst hx8
          clear hx9
          rw [hea]
          go_wp2_with fail
          refine (unhide HW2).mono ?_
          rintro e w2 ⟨hb2, he, hc⟩
          subst he
          have hbb := (unhide HB).trans hb2
          have hbk := (unhide HBK).below hbb (unhide HBKL)
          have r0 : w2.cell? ⟨b2, 0, none⟩ = some (.int .i64 o.rank) := hbk.cell 0 rfl
          have r1 : w2.cell? ⟨b2, 1, none⟩ = some (.func (.func o.fn) #[] #[]) := hbk.cell 1 rfl
          have r2 : w2.cell? ⟨b2, 2, none⟩ = some (enoughV o.enough) := hbk.cell 2 rfl
          have r3 : w2.cell? ⟨b2, 3, none⟩ = some (.bool o.div) := hbk.cell 3 rfl
          rw [unhide HEN] at r2
          have HB2 := hide hb2
          have HC2 := hide hc
          clear hb2 hc hbb hbk
          go_wp2_with fail
          refine (unhide HAP2 a b w2).mono ?_
          rintro e w3 ⟨he, b3⟩
          have B3 := hide b3
          clear b3
          rcases hq3 : applyS o a b with c | n
          · rw [hq3] at he
            have he2 : e = .returned (.tuple #[.int .i64 0, .int .i64 c]) := he
            subst he2
            have hc := applyS_err hq3
            have HE5 : Hid (evalS (findV vars) (.op o x y) σ = .error c) := hide (by rw [unhide HE4, hq3]; rfl)
            clear he hq3
            subst hc
            go_wp2
            go_ret2
            refine ⟨((unhide HB).trans (unhide HB2)).trans ((unhide B3).mono (by have := (unhide HB).size; have := (unhide HB2).size; omega)), ?_⟩
            rw [unhide HE5]
            exact ⟨rfl, by decide⟩
          · rw [hq3] at he
            have he2 : e = .returned (.tuple #[.int .i64 n, .int .i64 0]) := he
            subst he2
            have hn := applyS_ok (unhide HC).1 hq3
            have HE5 : Hid (evalS (findV vars) (.op o x y) σ = .ok (n, σ2)) := hide (by rw [unhide HE4, hq3]; rfl)
            have HN := hide hn
            clear he hq3 hn
            go_wp2
            go_ret2
            refine ⟨((unhide HB).trans (unhide HB2)).trans ((unhide B3).mono (by have := (unhide HB).size; have := (unhide HB2).size; omega)), ?_⟩
            rw [unhide HE5]
            obtain ⟨sv2, hS2⟩ := (unhide HC2).2
            exact ⟨rfl, unhide HN, sv2, (hS2.below (unhide B3)).mono (by simp only [cost]; omega)⟩

end Go.Proofs.YtlbpeknncakfeaaGreatDoor

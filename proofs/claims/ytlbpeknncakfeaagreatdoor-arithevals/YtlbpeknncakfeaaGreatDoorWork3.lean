/-
  An expression is worked out: choices, settings, changings; all of it.
-/
import Derived.Test.YtlbpeknncakfeaaGreatDoorWork2
namespace Go.Proofs.YtlbpeknncakfeaaGreatDoor
open Go.RowKit Go.Maps

set_option maxRecDepth 20000 in
set_option maxHeartbeats 8000000 in
theorem work_set (kb mb vb lo : Nat) (vars : List (List UInt8 × List UInt8)) (va : Value) (s : List UInt8) (x : E) (ih : ∀ v w M σ sv, Sc w kb mb vb vars va M σ sv → Rep lo mb w x v → M + cost x ≤ 100000 → Works kb mb vb vars va x v w M σ) :
    ∀ v w M σ sv, Sc w kb mb vb vars va M σ sv → Rep lo mb w (.set s x) v → M + (1 + cost x) ≤ 100000 → Works kb mb vb vars va (.set s x) v w M σ := by
  rintro v w M σ sv hS ⟨b1, b2, v1, h1, h2, hs, hr, rfl⟩ hM
  refine ⟨_, _, rfl, fun args w => by kernel_rfl, ?_⟩
  obtain ⟨k1, caps1, rfl, hcall, hw1⟩ := ih v1 w M σ sv hS hr (by omega)
  have c1 : w.cell? ⟨b1, 0, none⟩ = some (.func (.func k1) #[] caps1) := h1.2.2.cell 0 rfl
  have HB2 := hide h2
  have HE : Hid (evalS (findV vars) (.set s x) σ = match evalS (findV vars) x σ with | .error c => .error c | .ok (n, σ1) => .ok (n, setS s n σ1)) := hide rfl
  rcases hq : evalS (findV vars) x σ with c | ⟨n, σ1⟩
  · rw [hq] at hw1
    have HE2 : Hid (evalS (findV vars) (.set s x) σ = .error c) := hide (by rw [unhide HE, hq])
    have HW := hide hw1
    clear hS h1 h2 hr hw1 hq ih
    unfold at0
    go_enter Tryz.func113, Tryz.ntmps113
    go_wp2_with fail
    refine (unhide HW).mono ?_
    rintro e w1 ⟨hb1, he, hc⟩
    subst he
    have hc2 : (c == 0) = false := by simpa using hc
    have HB := hide hb1
    have HC := hide hc
    clear hb1 hc
    go_wp2
    go_ret2
    refine ⟨unhide HB, ?_⟩
    rw [unhide HE2]
    exact ⟨rfl, unhide HC⟩
  · rw [hq] at hw1
    have HE2 : Hid (evalS (findV vars) (.set s x) σ = .ok (n, setS s n σ1)) := hide (by rw [unhide HE, hq])
    have HW := hide hw1
    clear hS h1 h2 hr hw1 hq ih
    unfold at0
    go_enter Tryz.func113, Tryz.ntmps113
    go_wp2_with fail
    refine (unhide HW).mono ?_
    rintro e w1 ⟨hb1, he, hn, sv1, hS1⟩
    subst he
    have c2 : w1.cell? ⟨b2, 0, none⟩ = some (.string (BA s)) := ((unhide HB2).2.2.below hb1 (unhide HB2).2.1).cell 0 rfl
    have HB := hide hb1
    have HN := hide hn
    have HS1 := hide hS1
    clear hb1 hn hS1
    go_wp2_with fail
    refine (set_any kb mb vb vars va (M + cost x) σ1 sv1 s n w1 (unhide HS1) hs (by omega) (unhide HN)).mono ?_
    rintro e w2 ⟨rfl, hb2, sv2, hS2⟩
    have HB2 := hide hb2
    have HS2 := hide hS2
    clear hb2 hS2
    go_wp2
    go_ret2
    refine ⟨(unhide HB).trans (unhide HB2), ?_⟩
    rw [unhide HE2]
    exact ⟨rfl, unhide HN, sv2, (unhide HS2).mono (by simp only [cost]; omega)⟩

set_option maxRecDepth 20000 in
set_option maxHeartbeats 8000000 in
theorem work_choice (kb mb vb lo : Nat) (vars : List (List UInt8 × List UInt8)) (va : Value) (x y z : E) (ihx : ∀ v w M σ sv, Sc w kb mb vb vars va M σ sv → Rep lo mb w x v → M + cost x ≤ 100000 → Works kb mb vb vars va x v w M σ)
    (ihy : ∀ v w M σ sv, Sc w kb mb vb vars va M σ sv → Rep lo mb w y v → M + cost y ≤ 100000 → Works kb mb vb vars va y v w M σ)
    (ihz : ∀ v w M σ sv, Sc w kb mb vb vars va M σ sv → Rep lo mb w z v → M + cost z ≤ 100000 → Works kb mb vb vars va z v w M σ) :
    ∀ v w M σ sv, Sc w kb mb vb vars va M σ sv → Rep lo mb w (.choice x y z) v → M + (cost x + cost y + cost z) ≤ 100000 → Works kb mb vb vars va (.choice x y z) v w M σ := by
  rintro v w M σ sv hS ⟨b1, b2, b3, v1, v2, v3, h1, h2, h3, hr1, hr2, hr3, rfl⟩ hM
  refine ⟨_, _, rfl, fun args w => by kernel_rfl, ?_⟩
  obtain ⟨k1, caps1, rfl, hcall, hw1⟩ := ihx v1 w M σ sv hS hr1 (by omega)
  have c1 : w.cell? ⟨b1, 0, none⟩ = some (.func (.func k1) #[] caps1) := h1.2.2.cell 0 rfl
  have IY := hide ihy
  have IZ := hide ihz
  have HR2 := hide hr2
  have HR3 := hide hr3
  have HB2 := hide h2
  have HB3 := hide h3
  have HE : Hid (evalS (findV vars) (.choice x y z) σ = match evalS (findV vars) x σ with | .error c => .error c | .ok (a, σ1) => if a != 0 then evalS (findV vars) y σ1 else evalS (findV vars) z σ1) := hide rfl
  rcases hq : evalS (findV vars) x σ with c | ⟨a, σ1⟩
  · rw [hq] at hw1
    have HE2 : Hid (evalS (findV vars) (.choice x y z) σ = .error c) := hide (by rw [unhide HE, hq])
    have HW := hide hw1
    clear hS h1 h2 h3 hr1 hr2 hr3 hw1 hq ihx ihy ihz
    unfold at0
    go_enter Tryz.func133, Tryz.ntmps133
    go_wp2_with fail
    refine (unhide HW).mono ?_
    rintro e w1 ⟨hb1, he, hc⟩
    subst he
    have hc2 : (c == 0) = false := by simpa using hc
    have HB := hide hb1
    have HC := hide hc
    clear hb1 hc
    go_wp2
    go_ret2
    refine ⟨unhide HB, ?_⟩
    rw [unhide HE2]
    exact ⟨rfl, unhide HC⟩
  · rw [hq] at hw1
    have HE2 : Hid (evalS (findV vars) (.choice x y z) σ = if a != 0 then evalS (findV vars) y σ1 else evalS (findV vars) z σ1) := hide (by rw [unhide HE, hq])
    have HW := hide hw1
    clear hS h1 h2 h3 hr1 hr2 hr3 hw1 hq ihx ihy ihz HE
    unfold at0
    go_enter Tryz.func133, Tryz.ntmps133
    go_wp2_with fail
    refine (unhide HW).mono ?_
    rintro e w1 ⟨hb1, he, hn, sv1, hS1⟩
    subst he
    have q2 := (unhide HB2).2.2.below hb1 (unhide HB2).2.1
    have q3 := (unhide HB3).2.2.below hb1 (unhide HB3).2.1
    have hy := fun hM' => unhide IY v2 w1 (M + cost x) σ1 sv1 hS1 ((unhide HR2).below hb1) hM'
    have hz := fun hM' => unhide IZ v3 w1 (M + cost x) σ1 sv1 hS1 ((unhide HR3).below hb1) hM'
    obtain ⟨k2, caps2, rfl, hcall2, hw2⟩ := hy (by omega)
    obtain ⟨k3, caps3, rfl, hcall3, hw3⟩ := hz (by omega)
    have q2' : w1.cell? ⟨b2, 0, none⟩ = some (.func (.func k2) #[] caps2) := q2.cell 0 rfl
    have q3' : w1.cell? ⟨b3, 0, none⟩ = some (.func (.func k3) #[] caps3) := q3.cell 0 rfl
    have HB := hide hb1
    have HW2 := hide hw2
    have HW3 := hide hw3
    clear hb1 hn hS1 q2 q3 hy hz hw2 hw3
    go_wp2_with fail
    refine (holds_any a _).mono ?_
    rintro e w9 ⟨rfl, hx9⟩
    have hx8 := hx9.symm
    subst hx8
    clear hx9
    rcases Bool.eq_false_or_eq_true (a != 0) with hea | hea
    · have HE3 : Hid (evalS (findV vars) (.choice x y z) σ = evalS (findV vars) y σ1) := hide (by rw [unhide HE2, hea]; rfl)
      rw [hea]
      clear hea
      go_wp2_with fail
      refine (unhide HW2).mono ?_
      intro e w2 hev
      have HEV := hide (hev.mono (unhide HB) (show M + cost x + cost y ≤ M + cost (.choice x y z) by simp only [cost]; omega))
      have h2 := hev.2
      rcases hr : evalS (findV vars) y σ1 with c | ⟨b, σ2⟩
      · rw [hr] at h2
        obtain ⟨he, hc⟩ := h2
        have HF : Hid (EvEnd w kb mb vb vars va (M + cost (.choice x y z)) (evalS (findV vars) (.choice x y z) σ) e w2) := hide (by rw [unhide HE3]; exact unhide HEV)
        subst he
        clear hev hr HEV
        go_wp2
        go_ret2
        exact unhide HF
      · rw [hr] at h2
        obtain ⟨he, hc⟩ := h2
        have HF : Hid (EvEnd w kb mb vb vars va (M + cost (.choice x y z)) (evalS (findV vars) (.choice x y z) σ) e w2) := hide (by rw [unhide HE3]; exact unhide HEV)
        subst he
        clear hev hr HEV hc
        go_wp2
        go_ret2
        exact unhide HF
    · have HE3 : Hid (evalS (findV vars) (.choice x y z) σ = evalS (findV vars) z σ1) := hide (by rw [unhide HE2, hea]; rfl)
      rw [hea]
      clear hea
      go_wp2_with fail
      refine (unhide HW3).mono ?_
      intro e w2 hev
      have HEV := hide (hev.mono (unhide HB) (show M + cost x + cost z ≤ M + cost (.choice x y z) by simp only [cost]; omega))
      have h2 := hev.2
      rcases hr : evalS (findV vars) z σ1 with c | ⟨b, σ2⟩
      · rw [hr] at h2
        obtain ⟨he, hc⟩ := h2
        have HF : Hid (EvEnd w kb mb vb vars va (M + cost (.choice x y z)) (evalS (findV vars) (.choice x y z) σ) e w2) := hide (by rw [unhide HE3]; exact unhide HEV)
        subst he
        clear hev hr HEV
        go_wp2
        go_ret2
        exact unhide HF
      · rw [hr] at h2
        obtain ⟨he, hc⟩ := h2
        have HF : Hid (EvEnd w kb mb vb vars va (M + cost (.choice x y z)) (evalS (findV vars) (.choice x y z) σ) e w2) := hide (by rw [unhide HE3]; exact unhide HEV)
        subst he
        clear hev hr HEV hc
        go_wp2
        go_ret2
        exact unhide HF

set_option maxRecDepth 20000 in
set_option maxHeartbeats 8000000 in
theorem work_chg (kb mb vb lo : Nat) (vars : List (List UInt8 × List UInt8)) (va : Value) (s : List UInt8) (o : Opr) (x : E) (ih : ∀ v w M σ sv, Sc w kb mb vb vars va M σ sv → Rep lo mb w x v → M + cost x ≤ 100000 → Works kb mb vb vars va x v w M σ) :
    ∀ v w M σ sv, Sc w kb mb vb vars va M σ sv → Rep lo mb w (.chg s o x) v → M + (1 + cost x) ≤ 100000 → Works kb mb vb vars va (.chg s o x) v w M σ := by
  rintro v w M σ sv hS ⟨b1, b2, b3, v1, h1, h2, h3, hs, hok, hr, rfl⟩ hM
  refine ⟨_, _, rfl, fun args w => by kernel_rfl, ?_⟩
  obtain ⟨k1, caps1, rfl, hcall, hw1⟩ := ih v1 w M σ sv hS hr (by omega)
  have c1 : w.cell? ⟨b1, 0, none⟩ = some (.func (.func k1) #[] caps1) := h1.2.2.cell 0 rfl
  have HB2 := hide h2
  have HB3 := hide h3
  have hmb := hS.lt2
  have hkl := hS.blk.lt
  obtain ⟨ev, hev⟩ : ∃ ev, ev = enoughV o.enough := ⟨_, rfl⟩
  have hevc : ev = .nilFunc ∨ ∃ kk, ev = .func (.func kk) #[] #[] := by rw [hev]; cases o.enough with
    | none => exact .inl rfl
    | some kk => exact .inr ⟨kk, rfl⟩
  have HEV := hide hev
  have HAP : Hid (∀ a b w, Calls Tryz.prog 117 #[.agg #[.int .i64 o.rank, .func (.func o.fn) #[] #[], ev, .bool o.div], .int .i64 a, .int .i64 b] w fun e w' => ApEnd (applyS o a b) e ∧ Below w.heap.size w w') := hide (fun a b w => by rw [hev]; exact apply_any o hok a b w)
  have HE : Hid (evalS (findV vars) (.chg s o x) σ = match evalS (findV vars) x σ with | .error c => .error c | .ok (b, σ1) => match askS (findV vars) s σ1 with | .error c => .error c | .ok (a, σ2) => apS (applyS o a b) σ2) := hide rfl
  rcases hq : evalS (findV vars) x σ with c | ⟨b, σ1⟩
  · rw [hq] at hw1
    have HE2 : Hid (evalS (findV vars) (.chg s o x) σ = .error c) := hide (by rw [unhide HE, hq])
    have HW := hide hw1
    clear hS h1 h2 h3 hr hw1 hq ih hev hevc
    unfold at0
    go_enter Tryz.func115, Tryz.ntmps115
    go_wp2_with fail
    refine (unhide HW).mono ?_
    rintro e w1 ⟨hb1, he, hc⟩
    subst he
    have hc2 : (c == 0) = false := by simpa using hc
    have HB := hide hb1
    have HC := hide hc
    clear hb1 hc
    go_wp2
    go_ret2
    refine ⟨unhide HB, ?_⟩
    rw [unhide HE2]
    exact ⟨rfl, unhide HC⟩
  · rw [hq] at hw1
    have HE2 : Hid (evalS (findV vars) (.chg s o x) σ = match askS (findV vars) s σ1 with | .error c => .error c | .ok (a, σ2) => apS (applyS o a b) σ2) := hide (by rw [unhide HE, hq])
    have HW := hide hw1
    clear hS h1 h2 h3 hr hw1 hq ih HE hev
    unfold at0
    go_enter Tryz.func115, Tryz.ntmps115
    go_wp2_with fail
    refine (unhide HW).mono ?_
    rintro e w1 ⟨hb1, he, hn, sv1, hS1⟩
    subst he
    have c2 : w1.cell? ⟨b2, 0, none⟩ = some (.string (BA s)) := ((unhide HB2).2.2.below hb1 (unhide HB2).2.1).cell 0 rfl
    have hnum := number_of kb mb vb vars va (M + cost x) σ1 sv1 s w1 hS1 hs (by omega)
    have HB := hide hb1
    clear hb1 hS1 hn
    rcases hq2 : askS (findV vars) s σ1 with c | ⟨a, σ2⟩
    · rw [hq2] at hnum
      have HE3 : Hid (evalS (findV vars) (.chg s o x) σ = .error c) := hide (by rw [unhide HE2, hq2])
      have HN := hide hnum
      clear hnum hq2 hevc
      go_wp2_with fail
      refine (unhide HN).mono ?_
      rintro e w2 ⟨hb2, he, hc⟩
      subst he
      have hc2 : (c == 0) = false := by simpa using hc
      have HB2' := hide hb2
      have HC := hide hc
      clear hb2 hc
      go_wp2
      go_ret2
      refine ⟨(unhide HB).trans (unhide HB2'), ?_⟩
      rw [unhide HE3]
      exact ⟨rfl, unhide HC⟩
    · rw [hq2] at hnum
      have HE3 : Hid (evalS (findV vars) (.chg s o x) σ = apS (applyS o a b) σ2) := hide (by rw [unhide HE2, hq2])
      have HN := hide hnum
      clear hnum hq2
      go_wp2_with fail
      refine (unhide HN).mono ?_
      rintro e w2 ⟨hb2, he, hc⟩
      subst he
      have hbk := (unhide HB3).2.2.below ((unhide HB).trans hb2) (unhide HB3).2.1
      have r0 : w2.cell? ⟨b3, 0, none⟩ = some (.int .i64 o.rank) := hbk.cell 0 rfl
      have r1 : w2.cell? ⟨b3, 1, none⟩ = some (.func (.func o.fn) #[] #[]) := hbk.cell 1 rfl
      have r2 : w2.cell? ⟨b3, 2, none⟩ = some (enoughV o.enough) := hbk.cell 2 rfl
      have r3 : w2.cell? ⟨b3, 3, none⟩ = some (.bool o.div) := hbk.cell 3 rfl
      rw [← unhide HEV] at r2
      have HB2' := hide hb2
      have HC := hide hc
      clear hb2 hc hbk
      rcases hevc with rfl | ⟨kk, rfl⟩
      all_goals
        go_wp2_with fail
        refine (unhide HAP a b w2).mono ?_
        rintro e w3 ⟨he, b3⟩
        have B3 := hide b3
        clear b3
        rcases hq3 : applyS o a b with c | n
        · rw [hq3] at he
          have he2 : e = .returned (.tuple #[.int .i64 0, .int .i64 c]) := he
          subst he2
          have hc := applyS_err hq3
          have HE5 : Hid (evalS (findV vars) (.chg s o x) σ = .error c) := hide (by rw [unhide HE3, hq3]; rfl)
          clear he hq3
          subst hc
          go_wp2
          go_ret2
          refine ⟨((unhide HB).trans (unhide HB2')).trans ((unhide B3).mono (by have := (unhide HB).size; have := (unhide HB2').size; omega)), ?_⟩
          rw [unhide HE5]
          exact ⟨rfl, by decide⟩
        · rw [hq3] at he
          have he2 : e = .returned (.tuple #[.int .i64 n, .int .i64 0]) := he
          subst he2
          have hn := applyS_ok (unhide HC).1 hq3
          have HE5 : Hid (evalS (findV vars) (.chg s o x) σ = .ok (n, σ2)) := hide (by rw [unhide HE3, hq3]; rfl)
          have HN := hide hn
          clear he hq3 hn
          go_wp2
          go_ret2
          refine ⟨((unhide HB).trans (unhide HB2')).trans ((unhide B3).mono (by have := (unhide HB).size; have := (unhide HB2').size; omega)), ?_⟩
          rw [unhide HE5]
          obtain ⟨sv2, hS2⟩ := (unhide HC).2
          exact ⟨rfl, unhide HN, sv2, (hS2.below (unhide B3)).mono (by simp only [cost]; omega)⟩

/-- Whatever the expression is. -/
theorem work_any (kb mb vb lo : Nat) (vars : List (List UInt8 × List UInt8)) (va : Value) : ∀ (x : E) v w M σ sv, Sc w kb mb vb vars va M σ sv → Rep lo mb w x v → M + cost x ≤ 100000 → Works kb mb vb vars va x v w M σ
  | .num n => fun v w M σ sv h1 h2 _ => (work_leaf kb mb vb lo vars va).1 n v w M σ sv h1 h2
  | .name s => fun v w M σ sv h1 h2 h3 => (work_leaf kb mb vb lo vars va).2 s v w M σ sv h1 h2 (Nat.le_trans (Nat.le_add_right _ _) h3)
  | .sign k x => work_sign kb mb vb lo vars va k x (work_any kb mb vb lo vars va x)
  | .op o x y => work_op kb mb vb lo vars va o x y (work_any kb mb vb lo vars va x) (work_any kb mb vb lo vars va y)
  | .choice x y z => work_choice kb mb vb lo vars va x y z (work_any kb mb vb lo vars va x) (work_any kb mb vb lo vars va y) (work_any kb mb vb lo vars va z)
  | .set s x => work_set kb mb vb lo vars va s x (work_any kb mb vb lo vars va x)
  | .chg s o x => work_chg kb mb vb lo vars va s o x (work_any kb mb vb lo vars va x)

end Go.Proofs.YtlbpeknncakfeaaGreatDoor

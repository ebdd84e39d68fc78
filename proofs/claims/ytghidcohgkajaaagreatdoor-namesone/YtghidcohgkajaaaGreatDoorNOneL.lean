/-
  NamesOne: a call that makes or takes away a name changes no other one, and with an error nothing changes.
-/
import Derived.Test.YtghidcohgkajaaaGreatDoorNOneM
namespace Go.Proofs.YtghidcohgkajaaaGreatDoor
open Go.RowKit Go.Maps

set_option maxRecDepth 100000 in
set_option maxHeartbeats 16000000 in
theorem one_walk (v : Value) (L : List Op13) (o : Op13) (w : World) (E : EnvB w (Bas.of w)) (hpw : PowB (Bas.of w)) (hl : ORow w v L) (ho : o.ok) (LK : ∀ f q Y nb B, LkAt f q Y nb B) : Calls Tryz.prog 6 #[v, .agg #[.int .i64 o.ask, .int .i64 o.dir, .string (BA o.path), .string (BA o.tgt), .int .i64 o.n]] w fun e w' => e = .returned (.bool true) ∧ Below w.heap.size w w' := by
  obtain ⟨ad, cap, rfl, hrow⟩ := hl
  obtain ⟨oa, od, op, ot, on⟩ := o
  simp only
  obtain ⟨W0, hW0⟩ : ∃ W0, W0 = w.alloc (.cells #[.int .i64 oa, .int .i64 od, .string (BA op), .string (BA ot), .int .i64 on] 33) := ⟨_, rfl⟩
  have hb0 : Below w.heap.size w W0 := by rw [hW0]; exact (Below.refl _ w).alloc (Nat.le_refl _) _
  have E0 : EnvB W0 (Bas.of w) := E.below hb0
  have hpw0 : PowB (Bas.of W0) := E0.pow hpw
  have hbx : Blk W0 w.heap.size 33 #[.int .i64 oa, .int .i64 od, .string (BA op), .string (BA ot), .int .i64 on] := by rw [hW0]; exact Blk.new w _ _
  obtain ⟨ob, hob⟩ : ∃ ob, ob = w.heap.size := ⟨_, rfl⟩
  rw [← hob] at hbx
  have HNW := hide (nnew_any 30 30 W0 E0.self (by decide) (by decide) (by decide) (by decide))
  have hrow0 : ∀ (i : Nat) (x : Op13), L[i]? = some x → (∃ g o, ad = some ⟨g, o, none⟩ ∧ g < W0.heap.size ∧ OCell W0 g (o + i * 5) x) ∧ x.ok := fun i x hi => by
    obtain ⟨⟨g, o, h1, h2, h3⟩, h4⟩ := hrow i x hi
    have cc : ∀ c, W0.cell? ⟨g, c, none⟩ = w.cell? ⟨g, c, none⟩ := fun c => hb0.cell (p := ⟨g, c, none⟩) h2
    refine ⟨⟨g, o, h1, Nat.lt_of_lt_of_le h2 hb0.size, ?_⟩, h4⟩
    unfold OCell
    rw [cc, cc, cc, cc, cc]
    exact h3
  have HROW := hide hrow0
  have HPW := hide hpw0
  have HPW1 := hide hpw
  have HLK := hide LK
  have HE0 := hide E0
  have HOK := hide ho
  have HBX := hide hbx
  have HOB := hide hob
  have HW0 := hide hW0
  have HAWG : Hid (∀ W B, EnvB W B → B.w = w → Calls Tryz.prog 11 #[] W fun e w' => e = .returned (.bool true) ∧ Below w.heap.size w w') := hide (fun W B hW hB => (awake_any W hW.self).mono (fun e w' ⟨h1, h2⟩ => ⟨h1, by have h3 := hW.bel.trans (h2.mono hW.bel.size); rw [hB] at h3; exact h3⟩))
  have HAW : Hid (∀ W, EnvB W (Bas.of W0) → Calls Tryz.prog 11 #[] W fun e w' => e = .returned (.bool true) ∧ Below w.heap.size w w') := hide (fun W hW => (awake_any W hW.self).mono (fun e w' ⟨h1, h2⟩ => ⟨h1, hb0.trans ((hW.bel.trans (h2.mono hW.bel.size)).mono hb0.size)⟩))
  clear hrow hrow0 hpw LK E E0 hpw0 hbx hob hb0 hW0 ho
  obtain ⟨len, hlen⟩ : ∃ len, len = L.length := ⟨_, rfl⟩
  rw [← hlen]
  have HLN := hide hlen
  clear hlen
  go_enter Tryz.func6, Tryz.ntmps6
  go_wp2_with fail
  rw [← unhide HW0]
  refine (unhide HNW).mono ?_
  rintro e w1 ⟨f, q, rfl, HN1⟩
  obtain ⟨Y, hfx, hY, hf0, _⟩ := unhide HN1
  have HF0 := hide hf0
  have HBC : Hid (∀ W, EnvB W (Bas.of W0) → W.cell? ⟨ob, 0, none⟩ = some (.int .i64 oa) ∧ W.cell? ⟨ob, 1, none⟩ = some (.int .i64 od) ∧ W.cell? ⟨ob, 2, none⟩ = some (.string (BA op)) ∧ W.cell? ⟨ob, 3, none⟩ = some (.string (BA ot)) ∧ W.cell? ⟨ob, 4, none⟩ = some (.int .i64 on)) := hide (fun W hW => by
    have hB := (unhide HBX).below hW.bel (unhide HBX).lt
    exact ⟨hB.cell 0 rfl, hB.cell 1 rfl, hB.cell 2 rfl, hB.cell 3 rfl, hB.cell 4 rfl⟩)
  obtain ⟨c0, c1, c2, c3, c4⟩ := unhide HBC w1 hfx.nd.env
  have HFX1 := hide hfx
  have HFW := hide (few_any ⟨oa, od, op, ot, on⟩ w1)
  have HFL : Hid ((⟨oa, od, op, ot, on⟩ : Op13).few = true → op.length ≤ 400 ∧ ∀ d, (⟨oa, d, op, ot, on⟩ : Op13).few = true) := hide (fun h => by
    refine ⟨?_, fun d => h⟩
    unfold Op13.few at h
    rw [Bool.and_eq_true, decide_eq_true_eq, decide_eq_true_eq] at h
    exact h.1)
  simp only at HFW
  obtain ⟨fw, hfw⟩ : ∃ fw, fw = (⟨oa, od, op, ot, on⟩ : Op13).few := ⟨_, rfl⟩
  rw [← hfw] at HFW HFL
  rw [← unhide HOB]
  clear HN1 HNW hfx hY hf0 hfw
  cases fw with
  | false =>
    clear HFL
    go_wp2_with fail
    refine (unhide HFW).mono ?_
    rintro e w2 ⟨rfl, hw⟩
    have HE2 := hide ((unhide HFX1).nd.env.below hw)
    clear hw c0 c1 c2 c3 c4
    have HA := hide (unhide HAW w2 (unhide HE2))
    go_wp2_with fail
    refine (unhide HA).mono ?_
    rintro e wz ⟨rfl, hw⟩
    have HB := hide hw
    clear hw
    go_wp2_with fail
    go_ret
    exact ⟨rfl, unhide HB⟩
  | true =>
    go_wp2_with fail
    refine (unhide HFW).mono ?_
    rintro e w2 ⟨rfl, hw⟩
    have HFX := hide ((unhide HFX1).below hw)
    have HEN := hide ((unhide HFX1).below hw).nd.env
    clear hw c0 c1 c2 c3 c4 HFX1 HFW
    obtain ⟨c0, c1, c2, c3, c4⟩ := unhide HBC w2 (unhide HEN)
    by_cases a1 : oa < 0
    · clear HFX HFL HROW HLK
      have HA := hide (unhide HAW w2 (unhide HEN))
      go_wp2_with fail
      refine (unhide HA).mono ?_
      rintro e wz ⟨rfl, hw⟩
      have HB := hide hw
      clear hw
      go_wp2_with fail
      go_ret
      exact ⟨rfl, unhide HB⟩
    by_cases a2 : 5 < oa
    · clear HFX HFL HROW HLK
      have HA := hide (unhide HAW w2 (unhide HEN))
      go_wp2_with fail
      refine (unhide HA).mono ?_
      rintro e wz ⟨rfl, hw⟩
      have HB := hide hw
      clear hw
      go_wp2_with fail
      go_ret
      exact ⟨rfl, unhide HB⟩
    by_cases a3 : oa = 2
    · subst a3
      clear HFX HFL HROW HLK
      have HA := hide (unhide HAW w2 (unhide HEN))
      go_wp2_with fail
      refine (unhide HA).mono ?_
      rintro e wz ⟨rfl, hw⟩
      have HB := hide hw
      clear hw
      go_wp2_with fail
      go_ret
      exact ⟨rfl, unhide HB⟩
    by_cases a4 : oa = 3
    · subst a4
      clear HFX HFL HROW HLK
      have HA := hide (unhide HAW w2 (unhide HEN))
      go_wp2_with fail
      refine (unhide HA).mono ?_
      rintro e wz ⟨rfl, hw⟩
      have HB := hide hw
      clear hw
      go_wp2_with fail
      go_ret
      exact ⟨rfl, unhide HB⟩
    have HASK : Hid (oa = 0 ∨ oa = 1 ∨ oa = 4 ∨ oa = 5) := hide (by omega)
    have b3 : (oa == 2) = false := by simpa using a3
    have b4 : (oa == 3) = false := by simpa using a4
    obtain ⟨P, hP⟩ : ∃ P, P = BA op := ⟨_, rfl⟩
    obtain ⟨lp, hlp⟩ : ∃ lp, lp = op.length := ⟨_, rfl⟩
    have hPs : P.size = lp := by rw [hP, hlp]; rfl
    rw [← hP] at c2
    have hlp4 : lp ≤ 400 := by rw [hlp]; exact (unhide HFL (by first | rfl | trivial)).1
    have HPE := hide hP
    have HLP := hide hlp
    clear hP hlp
    go_wp2_with fail
    go_loop [7] (fun v => ∃ j : Nat, v = .int .i64 (j : Int) ∧ j ≤ lp ∧ Hid (∀ c ∈ op.take j, c ≠ 47)) (fun v => lp - (intOf v).toNat)
    case atStart => exact ⟨0, rfl, Nat.zero_le _, hide (by simp)⟩
    case round =>
      obtain ⟨j, rfl, hj, HJ⟩ := hrel
      by_cases hlt : j < lp
      · have h1 : (j : Int) < (lp : Int) := by omega
        have h0 : (0 : Int) ≤ (j : Int) := by omega
        have hjs : j < P.size := by omega
        have hjl : j < op.length := by have := unhide HLP; omega
        have hget : P[j]'hjs = op[j] := by
          have : ∀ (X : ByteArray) (h : j < X.size), X = BA op → X[j]'h = op[j] := fun X h e2 => by subst e2; rfl
          exact this _ hjs (unhide HPE)
        cases hb : (((P[j]'hjs).toNat : Int) == 47) with
        | true =>
          clear HFX HROW HLK HJ hget
          have HA := hide (unhide HAW w2 (unhide HEN))
          go_wp2_with fail
          refine (unhide HA).mono ?_
          rintro e wz ⟨rfl, hw⟩
          have HB := hide hw
          clear hw
          go_wp2_with fail
          go_ret
          exact ⟨rfl, unhide HB⟩
        | false =>
          have HJ2 : Hid (∀ c ∈ op.take (j + 1), c ≠ 47) := hide (by
            rw [List.take_succ_eq_append_getElem hjl]
            intro c hc
            rw [List.mem_append] at hc
            rcases hc with hc | hc
            · exact unhide HJ c hc
            · rw [List.mem_singleton] at hc
              rw [hc, ← hget]
              intro e
              rw [e] at hb
              exact absurd hb (by decide))
          clear HJ hget
          go_wp2_with fail
          go_round
          case rel => exact ⟨j + 1, by go_num, by omega, HJ2⟩
          case measure => simp [intOf]; omega
      · have h1 : ¬ (j : Int) < (lp : Int) := by omega
        have HP : Hid (∀ c ∈ op, c ≠ 47) := hide (by
          have e := unhide HJ
          rw [List.take_of_length_le (by have := unhide HLP; omega)] at e
          exact e)
        clear HJ hlt hj
        go_wp2_with fail
        clear c0 c1 c2 c3 c4 HEN a1 a2 a3 a4 b3 b4
        obtain ⟨FXX, hFXX⟩ : ∃ P : World → NS → Nat → Prop, P = fun wr s n => FX wr f q Y s 30 n (Bas.of W0) := ⟨_, rfl⟩
        have hL1 : ∀ wr s n, FXX wr s n → FX wr f q Y s 30 n (Bas.of W0) := fun wr s n h => by rw [hFXX] at h; exact h
        have hL2 : ∀ wr s n, FX wr f q Y s 30 n (Bas.of W0) → FXX wr s n := fun wr s n h => by rw [hFXX]; exact h
        have HL1 := hide hL1
        have HL2 := hide hL2
        clear hFXX hL1 hL2
        replace HFX := hide (unhide HL2 _ _ _ (unhide HFX))
        go_loopw [8] (fun v wr => ∃ (j : Nat) (s : NS), v = .int .i64 (j : Int) ∧ j ≤ len ∧ j ≤ 40 ∧ Hid (FXX wr s (j + 1))) (fun v _ => len - (intOf v).toNat)
        case atStart => exact ⟨0, _, rfl, Nat.zero_le _, Nat.zero_le _, HFX⟩
        case round =>
          clear HFX
          obtain ⟨j, s, rfl, hjl, hjm, HT⟩ := hrel
          by_cases hin : j < len ∧ j < 40
          · obtain ⟨hlt, hltm⟩ := hin
            have h1 : (j : Int) < (len : Int) := by omega
            have h2 : (j : Int) < 40 := by omega
            have h0 : (0 : Int) ≤ (j : Int) := by omega
            obtain ⟨x, hx⟩ : ∃ x, L[j]? = some x := ⟨_, List.getElem?_eq_getElem (by have := unhide HLN; omega)⟩
            obtain ⟨⟨g', o', had, hg', hcell⟩, hok⟩ := unhide HROW j x hx
            have hfx := unhide HL1 _ _ _ (unhide HT)
            have HCC : Hid (∀ W, FXX W s (j + 1) → ∀ c v, W0.cell? ⟨g', c, none⟩ = some v → W.cell? ⟨g', c, none⟩ = some v) := hide (fun W hW c v h => ((unhide HL1 _ _ _ hW).nd.env.bel.cell (p := ⟨g', c, none⟩) hg').trans h)
            obtain ⟨oa, od, op, ot, on⟩ := x
            obtain ⟨e0, e1, e2, e3, e4⟩ := hcell
            simp only at e0 e1 e2 e3 e4
            have q0 := unhide HCC _ (unhide HT) _ _ e0
            have q1 := unhide HCC _ (unhide HT) _ _ e1
            have q2 := unhide HCC _ (unhide HT) _ _ e2
            have q3 := unhide HCC _ (unhide HT) _ _ e3
            have q4 := unhide HCC _ (unhide HT) _ _ e4
            have HCE := hide (And.intro e0 (And.intro e1 (And.intro e2 (And.intro e3 e4))))
            have HFW := hide (few_any ⟨oa, od, op, ot, on⟩ wr)
            simp only at HFW
            have HBW : Hid (∀ W, Below wr.heap.size wr W → FXX W s (j + 1)) := hide (fun W hW => unhide HL2 _ _ _ (hfx.below hW))
            have HDO : Hid (∀ W, FXX W s (j + 1) → (⟨oa, od, op, ot, on⟩ : Op13).few = true → Calls Tryz.prog 18 #[.pointer (some ⟨f, 0, none⟩), .agg #[.int .i64 oa, .int .i64 od, .string (BA op), .string (BA ot), .int .i64 on]] W fun e w' => ∃ N E, e = .returned (.tuple #[.int .i64 N, .int .i64 E]) ∧ Hid (∃ s', FXX w' s' (j + 1 + 1))) := hide (fun W hW hf => (do_any (unhide HLK f q Y 30 (Bas.of W0)) (unhide HL1 _ _ _ hW) (by omega) ⟨oa, od, op, ot, on⟩ hok hf).mono (fun e w' h => by
              obtain ⟨N, E, h1, h2⟩ := h
              obtain ⟨s', _, h3⟩ := unhide h2
              exact ⟨N, E, h1, hide ⟨s', unhide HL2 _ _ _ h3⟩⟩))
            obtain ⟨fw, hfw⟩ : ∃ fw, fw = (⟨oa, od, op, ot, on⟩ : Op13).few := ⟨_, rfl⟩
            rw [← hfw] at HFW HDO
            subst had
            clear hx e0 e1 e2 e3 e4 hok hfx HROW HLN hfw 
            cases fw with
            | false =>
              clear HDO HCC HCE
              go_wp2_with fail
              refine (unhide HFW).mono ?_
              rintro e w2 ⟨rfl, hw⟩
              have HA := hide (unhide HAW w2 (unhide HL1 _ _ _ (unhide HBW _ hw)).nd.env)
              clear hw
              go_wp2_with fail
              refine (unhide HA).mono ?_
              rintro e w3 ⟨rfl, hw⟩
              have HB := hide hw
              clear hw
              go_wp2_with fail
              go_ret
              exact ⟨rfl, unhide HB⟩
            | true =>
              go_wp2_with fail
              refine (unhide HFW).mono ?_
              rintro e w2 ⟨rfl, hw⟩
              have HT2 := hide (unhide HBW _ hw)
              obtain ⟨e0, e1, e2, e3, e4⟩ := unhide HCE
              have r0 := unhide HCC _ (unhide HT2) _ _ e0
              have r1 := unhide HCC _ (unhide HT2) _ _ e1
              have r2 := unhide HCC _ (unhide HT2) _ _ e2
              have r3 := unhide HCC _ (unhide HT2) _ _ e3
              have r4 := unhide HCC _ (unhide HT2) _ _ e4
              have HD := hide (unhide HDO _ (unhide HT2) (by first | rfl | trivial))
              clear HDO HCC HCE HFW e0 e1 e2 e3 e4 q0 q1 q2 q3 q4 HBW HT hw
              by_cases h10 : oa < 10
              · go_wp2_with fail
                refine (unhide HD).mono ?_
                rintro e w3 ⟨N, E, rfl, HX⟩
                obtain ⟨s', hs'⟩ := unhide HX
                have HS := hide hs'
                clear HX hs' HD
                go_wp2_with fail
                go_roundw
                case rel => exact ⟨j + 1, s', by go_num, by omega, by omega, HS⟩
                case measure => simp [intOf]; omega
              · clear HD
                have h10b : decide (oa < 10) = false := by simpa using h10
                go_wp2_with fail
                go_roundw
                case rel => exact ⟨j + 1, s, by go_num, by omega, by omega, hide (unhide HL2 _ _ _ ((unhide HL1 _ _ _ (unhide HT2)).mono (Nat.le_succ _)))⟩
                case measure => simp [intOf]; omega
          · have HLAW : Hid (∀ W, FXX W s (j + 1) → Calls Tryz.prog 11 #[] W fun e w' => e = .returned (.bool true) ∧ Below w.heap.size w w') := hide (fun W hW => unhide HAW W (unhide HL1 _ _ _ hW).nd.env)
            go_upto_region 10 with fail
            go_cut [84] from 77 to 84 (fun v wx => v = .bool false ∧ wx = wr)
            case first =>
              clear HT HROW HLK HLAW
              by_cases hlt : j < len
              · have h1 : (j : Int) < (len : Int) := by omega
                have h2 : ¬ (j : Int) < 40 := by omega
                go_wp2
                go_meet
                exact ⟨rfl, rfl⟩
              · have h1 : ¬ (j : Int) < (len : Int) := by omega
                go_wp2
                go_meet
                exact ⟨rfl, rfl⟩
            case rest =>
              obtain ⟨rfl, hcw⟩ := hcut
              have hcw2 := hcw.symm
              subst hcw2
              clear HROW HLN hjl HLAW hin hcw
              have hj1 : j + 1 ≤ 41 := by omega
              obtain ⟨n, hn⟩ : ∃ n, n = j + 1 := ⟨_, rfl⟩
              rw [← hn] at HT hj1
              have HFX := hide (unhide HL1 _ _ _ (unhide HT))
              have HLS := hide (list_any (unhide HFX) (by omega) 1 (by decide))
              obtain ⟨le1, hle1⟩ : ∃ le1, le1 = listE s 1 := ⟨_, rfl⟩
              rw [← hle1] at HLS
              clear hn hle1 HT HL1 HL2
              go_wp2_with fail
              refine (unhide HLS).mono ?_
              rintro e w3 ⟨v1, rfl, HT3⟩
              obtain ⟨ad1, cap1, rfl, hc1, hc2⟩ := (unhide HT3).1.len
              have HPR1 := hide (print_any (unhide HPW) ((unhide HFX).below (unhide HT3).2.2) (by omega))
              obtain ⟨PS, hPS⟩ : ∃ PS, PS = BA (prT s) := ⟨_, rfl⟩
              have HPS := hide hPS
              rw [← hPS] at HPR1
              obtain ⟨l1, hl1⟩ : ∃ l1, l1 = inL s.L 1 := ⟨_, rfl⟩
              have HL1E := hide hl1
              rw [← hl1] at HT3 hc1 ⊢
              clear hPS hl1 HLS
              go_wp2_with fail
              refine (unhide HPR1).mono ?_
              rintro e w4 ⟨rfl, hw4⟩
              have HB4 := hide ((unhide HT3).2.2.trans (hw4.mono (unhide HT3).2.2.size))
              obtain ⟨Y5, hfx5, hno5, hy5⟩ := FX.onward (unhide HFX) (unhide HB4) (unhide HE0) (by have := (unhide HBX).lt; exact this) (Nat.le_of_eq (unhide HOB).symm) (unhide HF0) 1 (.int .i64 1)
              have hbx4 : Blk w4 ob 33 #[.int .i64 oa, .int .i64 od, .string (BA op), .string (BA ot), .int .i64 on] := (unhide HBX).below (((unhide HFX).nd.env).below (unhide HB4)).bel (unhide HBX).lt
              have hbx5 := hbx4.set 1 (.int .i64 1)
              have c1 : w4.cell? ⟨ob, 1, none⟩ = some (.int .i64 od) := hbx4.cell 1 rfl
              have f1 : w4.frozen? ⟨ob, 1, none⟩ = false := hbx4.frozen 1
              obtain ⟨w5, hw5⟩ : ∃ w5, w5 = w4.setCell ⟨ob, 1, none⟩ (.int .i64 1) := ⟨_, rfl⟩
              rw [← hw5] at hfx5 hbx5
              have HTR5 : Hid (TRow w5 (.slice ad1 l1.length cap1) l1) := hide (by
                rw [hw5]
                refine ((unhide HT3).1.below hw4).grownS (GrownS.of (S := fun k => k = ob) (grown_setCell w4 ⟨ob, 1, none⟩ (.int .i64 1)) (fun k e => by injection e)) (fun k hk e => ?_)
                have h1 := (unhide HT3).2.1 k hk
                have h2 := (unhide HFX).nd.env.bel.size
                have h3 := (unhide HBX).lt
                have h2' : W0.heap.size ≤ wr.heap.size := h2
                omega)
              have HOWN : Hid (∀ k, (Value.slice ad1 l1.length cap1).ownBlock = some k → ¬ Y5 k) := hide (fun k hk => by
                have h1 := (unhide HT3).2.1 k hk
                refine hno5 k h1 ?_
                have h4 := hw4.size
                rcases (unhide HT3).1 with ⟨e, _⟩ | ⟨g, cap, cs, e, _, _, hg, _⟩
                · rw [e] at hk; cases hk
                · rw [e] at hk
                  have : g = k := by simpa [Value.ownBlock] using hk
                  subst this
                  have : g < w3.heap.size := by
                    rcases Nat.lt_or_ge g w3.heap.size with h' | h'
                    · exact h'
                    · rw [Array.getElem?_eq_none h'] at hg; cases hg
                  omega)
              have HFX5 := hide hfx5
              have HBX5 := hide hbx5
              have HW5 := hide hw5
              have HNOB : Hid (¬ Y5 ob) := hide (fun h => by have h1 := hy5 ob h; have h2 := (unhide HBX).lt; omega)
              have HDO := hide (do_any (unhide HLK f q Y5 30 ⟨w, w5, Y5⟩) hfx5 (by omega) ⟨oa, 1, op, ot, on⟩ ⟨(unhide HOK).1, by unfold I64; simp only; decide, (unhide HOK).2.2⟩ ((unhide HFL (by first | rfl | trivial)).2 1))
              simp only at HDO
              have HONE := hide (fun (N E : Int) s' (h : DoN s 30 ⟨oa, 1, op, ot, on⟩ N E s') => one_do (unhide HFX).nd.ok.inv (unhide HP) rfl (unhide HASK) h)
              simp only at HONE
              have q0 : w5.cell? ⟨ob, 0, none⟩ = some (.int .i64 oa) := hbx5.cell 0 rfl
              have q1 : w5.cell? ⟨ob, 1, none⟩ = some (.int .i64 1) := hbx5.cell 1 rfl
              have q2 : w5.cell? ⟨ob, 2, none⟩ = some (.string (BA op)) := hbx5.cell 2 rfl
              have q3 : w5.cell? ⟨ob, 3, none⟩ = some (.string (BA ot)) := hbx5.cell 3 rfl
              have q4 : w5.cell? ⟨ob, 4, none⟩ = some (.int .i64 on) := hbx5.cell 4 rfl
              clear hw4 HB4 hfx5 hno5 hy5 hbx4 hbx5 hw5 HPR1 HT3 HLK HFL
              go_upto_region 19 with fail
              rw [← unhide HW5]
              clear c1 f1 HW5
              go_wp2_with fail
              refine (unhide HDO).mono ?_
              rintro e w6 ⟨N, E, rfl, HX⟩
              obtain ⟨s', hdo, hfx6⟩ := unhide HX
              obtain ⟨hz, hnz⟩ := unhide HONE N E s' hdo
              have HZ := hide hz
              have HNZ := hide hnz
              have HFX6 := hide hfx6
              have HL2 := hide (list_any hfx6 (by omega) 1 (by decide))
              obtain ⟨le2, hle2⟩ : ∃ le2, le2 = listE s' 1 := ⟨_, rfl⟩
              rw [← hle2] at HL2
              clear hz hnz hfx6 hdo HX hle2 HDO HONE q0 q1 q2 q3 q4
              go_wp2_with fail
              refine (unhide HL2).mono ?_
              rintro e w7 ⟨v2, rfl, HT7⟩
              obtain ⟨ad2, cap2, rfl, hd1, hd2⟩ := (unhide HT7).1.len
              have HFX7 := hide ((unhide HFX6).below (unhide HT7).2.2)
              have hkp : GrownS w5 w7 Y5 := (unhide HFX7).nd.env.kept
              have hbx7 := (unhide HBX5).grownS hkp (unhide HNOB)
              have q0 : w7.cell? ⟨ob, 0, none⟩ = some (.int .i64 oa) := hbx7.cell 0 rfl
              have q2 : w7.cell? ⟨ob, 2, none⟩ = some (.string P) := by rw [unhide HPE]; exact hbx7.cell 2 rfl
              have HR1 : Hid (TRow w7 (.slice ad1 l1.length cap1) l1) := hide ((unhide HTR5).grownS hkp (unhide HOWN))
              have HR2 := hide (unhide HT7).1
              obtain ⟨l2, hl2⟩ : ∃ l2, l2 = inL s'.L 1 := ⟨_, rfl⟩
              rw [← hl2] at HR2 hd1 HNZ ⊢
              rw [← unhide HL1E] at HNZ
              have HAW7 := hide (fun W (h : Below w7.heap.size w7 W) => unhide HAWG W _ ((unhide HFX7).nd.env.below h) rfl)
              have HOB7 := hide hbx7.lt
              by_cases hE : E = 0
              · obtain ⟨hA, hB⟩ := unhide HNZ hE
                have HUA := hide hA
                have HUB := hide hB
                subst hE
                clear hA hB HNZ HZ HFX HFX5 HFX6 HT7 HL2 HTR5 HOWN HBX5 HBX HNOB hkp hbx7 hl2 HPW HPW1 HAW HAWG HFX7 HE0 HBC HF0 HW0 HOB HOK HP HASK
                obtain ⟨n1, hn1⟩ : ∃ n1, n1 = l1.length := ⟨_, rfl⟩
                obtain ⟨n2, hn2⟩ : ∃ n2, n2 = l2.length := ⟨_, rfl⟩
                rw [← hn1] at HR1 hc1 ⊢
                rw [← hn2] at HR2 hd1 ⊢
                have HN1 := hide hn1
                have HN2 := hide hn2
                clear hn1 hn2
                clear hj1
                by_cases hlow : oa < 2
                · have HUP := hide (unhide HUA hlow)
                  clear HUA HUB
                  have hlen : n2 = n1 + 1 := by rw [unhide HN1, unhide HN2]; exact (unhide HUP).2
                  have hbs : (n1 : Int) + 1 ≤ 9223372036854775807 := by unfold maxLen at hc2 hd2; omega
                  subst hlen
                  clear hc1 hc2 hd1 hd2
                  have hl0 : (0 : Int) ≤ (n1 : Int) := by omega
                  go_wp2_with fail
                  go_loopw [18, 19] (fun k i wx => ∃ j m : Nat, k = .int .i64 (m : Int) ∧ i = .int .i64 (j : Int) ∧ j ≤ (n1 + 1) ∧ m ≤ j ∧ Hid (m = ((l2.take j).filter (fun t => decide (t ≠ op))).length) ∧ Hid (Below w7.heap.size w7 wx)) (fun _ i _ => (n1 + 1) - (intOf i).toNat)
                  case atStart => exact ⟨0, 0, rfl, rfl, Nat.zero_le _, Nat.zero_le _, hide (by simp), hide (Below.refl _ _)⟩
                  case round =>
                    obtain ⟨j, m, rfl, rfl, hjn, hmj, HM, HBW⟩ := hrel
                    have q2' : wr.cell? ⟨ob, 2, none⟩ = some (.string P) := ((unhide HBW).cell (p := ⟨ob, 2, none⟩) (unhide HOB7)).trans q2
                    by_cases hlt : j < (n1 + 1)
                    · have h1 : (j : Int) < (n1 : Int) + 1 := by omega
                      have h0 : (0 : Int) ≤ (j : Int) := by omega
                      obtain ⟨t, ht⟩ : ∃ t, l2[j]? = some t := ⟨_, List.getElem?_eq_getElem (by have := unhide HN2; omega)⟩
                      obtain ⟨gl, had, hcell⟩ := ((unhide HR2).below (unhide HBW)).at ht
                      have HTM := hide (take_more (p := op) ht)
                      obtain ⟨T, hT⟩ : ∃ T, T = BA t := ⟨_, rfl⟩
                      rw [← hT] at hcell
                      by_cases e : t = op
                      · have hTP : T = P := by rw [hT, e, unhide HPE]
                        have HM2 : Hid (m = ((l2.take (j + 1)).filter (fun t => decide (t ≠ op))).length) := hide (by rw [unhide HTM, if_pos e]; exact unhide HM)
                        rw [hTP] at hcell
                        have HAR := hide (And.intro hjn (And.intro hmj hlt))
                        subst had
                        clear HTM HM hT hTP e ht HR1 HR2 HUP hjn hmj hlt
                        go_wp2_with fail
                        go_quiet (fail)
                        go_wp2_with fail
                        go_roundw
                        case rel => exact ⟨j + 1, m, rfl, by go_num, by have := unhide HAR; omega, by have := unhide HAR; omega, HM2, hide ((unhide HBW).trans ((below_drew _ _).mono (unhide HBW).size))⟩
                        case measure => have := unhide HAR; simp [intOf]; omega
                      · have hs := more_at (unhide HUP) ht e
                        rw [← unhide HM] at hs
                        have hmn : m < n1 := by rw [unhide HN1]; exact (List.getElem?_eq_some_iff.1 hs).1
                        have hm1 : (m : Int) < (n1 : Int) := by omega
                        have hmg : decide ((n1 : Int) ≤ (m : Int)) = false := by simp; omega
                        have hm0 : (0 : Int) ≤ (m : Int) := by omega
                        obtain ⟨gs, had2, hcell2⟩ := ((unhide HR1).below (unhide HBW)).at hs
                        rw [← hT] at hcell2
                        have hTPl : (T.toList == P.toList) = false := by
                          rw [Bool.eq_false_iff]
                          intro h
                          have h2 := eq_of_beq h
                          rw [hT, unhide HPE, ByteArray.toList_eq, ByteArray.toList_eq] at h2
                          exact e h2
                        have HM2 : Hid (m + 1 = ((l2.take (j + 1)).filter (fun t => decide (t ≠ op))).length) := hide (by rw [unhide HTM, if_neg e, ← unhide HM])
                        have HAR := hide (And.intro hjn (And.intro hmj hlt))
                        have HMG := hide hmg
                        clear hmg
                        have hmw : (m : Int) + 1 ≤ 9223372036854775807 := by omega
                        subst had had2
                        clear HTM HM hT e ht hs HR1 HR2 HUP hjn hmj hlt hmn
                        go_wp2_with fail
                        go_quiet (fail)
                        go_wp2_with fail
                        have hgd := unhide HMG
                        have hgq : ¬ ((n1 : Int) ≤ (m : Int)) := of_decide_eq_false hgd
                        go_quiet (fail)
                        go_wp2_with fail
                        go_roundw
                        case rel => exact ⟨j + 1, m + 1, by go_num, by go_num, by have := unhide HAR; omega, by have := unhide HAR; omega, HM2, hide ((unhide HBW).trans ((below_drew _ _).mono (unhide HBW).size))⟩
                        case measure => have := unhide HAR; simp [intOf]; omega
                    · have h1 : ¬ (j : Int) < (n1 : Int) + 1 := by omega
                      have hmn : m = n1 := by
                        have h2 := unhide HM
                        rw [List.take_of_length_le (by have := unhide HN2; omega), (unhide HUP).1, ← unhide HN1] at h2
                        exact h2
                      subst hmn
                      clear HM hlt HR1 HR2 HUP
                      go_wp2_with fail
                      refine (unhide HAW7 _ (unhide HBW)).mono ?_
                      rintro e w8 ⟨rfl, hw⟩
                      have HB := hide hw
                      clear hw
                      go_wp2_with fail
                      go_ret
                      exact ⟨rfl, unhide HB⟩

                · have HUP := hide (unhide HUB (by omega))
                  have hlowb : decide (oa < 2) = false := by simpa using hlow
                  clear HUA HUB hlow
                  have hlen : n1 = n2 + 1 := by rw [unhide HN1, unhide HN2]; exact (unhide HUP).2
                  have hbs : (n2 : Int) + 1 ≤ 9223372036854775807 := by unfold maxLen at hc2 hd2; omega
                  subst hlen
                  clear hc1 hc2 hd1 hd2
                  have hl0 : (0 : Int) ≤ (n2 : Int) := by omega
                  go_wp2_with fail
                  go_loopw [18, 19] (fun k i wx => ∃ j m : Nat, k = .int .i64 (m : Int) ∧ i = .int .i64 (j : Int) ∧ j ≤ (n2 + 1) ∧ m ≤ j ∧ Hid (m = ((l1.take j).filter (fun t => decide (t ≠ op))).length) ∧ Hid (Below w7.heap.size w7 wx)) (fun _ i _ => (n2 + 1) - (intOf i).toNat)
                  case atStart => exact ⟨0, 0, rfl, rfl, Nat.zero_le _, Nat.zero_le _, hide (by simp), hide (Below.refl _ _)⟩
                  case round =>
                    obtain ⟨j, m, rfl, rfl, hjn, hmj, HM, HBW⟩ := hrel
                    have q2' : wr.cell? ⟨ob, 2, none⟩ = some (.string P) := ((unhide HBW).cell (p := ⟨ob, 2, none⟩) (unhide HOB7)).trans q2
                    by_cases hlt : j < (n2 + 1)
                    · have h1 : (j : Int) < (n2 : Int) + 1 := by omega
                      have h0 : (0 : Int) ≤ (j : Int) := by omega
                      obtain ⟨t, ht⟩ : ∃ t, l1[j]? = some t := ⟨_, List.getElem?_eq_getElem (by have := unhide HN1; omega)⟩
                      obtain ⟨gl, had, hcell⟩ := ((unhide HR1).below (unhide HBW)).at ht
                      have HTM := hide (take_more (p := op) ht)
                      obtain ⟨T, hT⟩ : ∃ T, T = BA t := ⟨_, rfl⟩
                      rw [← hT] at hcell
                      by_cases e : t = op
                      · have hTP : T = P := by rw [hT, e, unhide HPE]
                        have HM2 : Hid (m = ((l1.take (j + 1)).filter (fun t => decide (t ≠ op))).length) := hide (by rw [unhide HTM, if_pos e]; exact unhide HM)
                        rw [hTP] at hcell
                        have HAR := hide (And.intro hjn (And.intro hmj hlt))
                        subst had
                        clear HTM HM hT hTP e ht HR1 HR2 HUP hjn hmj hlt
                        go_wp2_with fail
                        go_quiet (fail)
                        go_wp2_with fail
                        go_roundw
                        case rel => exact ⟨j + 1, m, rfl, by go_num, by have := unhide HAR; omega, by have := unhide HAR; omega, HM2, hide ((unhide HBW).trans ((below_drew _ _).mono (unhide HBW).size))⟩
                        case measure => have := unhide HAR; simp [intOf]; omega
                      · have hs := more_at (unhide HUP) ht e
                        rw [← unhide HM] at hs
                        have hmn : m < n2 := by rw [unhide HN2]; exact (List.getElem?_eq_some_iff.1 hs).1
                        have hm1 : (m : Int) < (n2 : Int) := by omega
                        have hmg : decide ((n2 : Int) ≤ (m : Int)) = false := by simp; omega
                        have hm0 : (0 : Int) ≤ (m : Int) := by omega
                        obtain ⟨gs, had2, hcell2⟩ := ((unhide HR2).below (unhide HBW)).at hs
                        rw [← hT] at hcell2
                        have hTPl : (T.toList == P.toList) = false := by
                          rw [Bool.eq_false_iff]
                          intro h
                          have h2 := eq_of_beq h
                          rw [hT, unhide HPE, ByteArray.toList_eq, ByteArray.toList_eq] at h2
                          exact e h2
                        have HM2 : Hid (m + 1 = ((l1.take (j + 1)).filter (fun t => decide (t ≠ op))).length) := hide (by rw [unhide HTM, if_neg e, ← unhide HM])
                        have HAR := hide (And.intro hjn (And.intro hmj hlt))
                        have HMG := hide hmg
                        clear hmg
                        have hmw : (m : Int) + 1 ≤ 9223372036854775807 := by omega
                        subst had had2
                        clear HTM HM hT e ht hs HR1 HR2 HUP hjn hmj hlt hmn
                        go_wp2_with fail
                        go_quiet (fail)
                        go_wp2_with fail
                        have hgd := unhide HMG
                        have hgq : ¬ ((n2 : Int) ≤ (m : Int)) := of_decide_eq_false hgd
                        go_quiet (fail)
                        go_wp2_with fail
                        go_roundw
                        case rel => exact ⟨j + 1, m + 1, by go_num, by go_num, by have := unhide HAR; omega, by have := unhide HAR; omega, HM2, hide ((unhide HBW).trans ((below_drew _ _).mono (unhide HBW).size))⟩
                        case measure => have := unhide HAR; simp [intOf]; omega
                    · have h1 : ¬ (j : Int) < (n2 : Int) + 1 := by omega
                      have hmn : m = n2 := by
                        have h2 := unhide HM
                        rw [List.take_of_length_le (by have := unhide HN1; omega), (unhide HUP).1, ← unhide HN2] at h2
                        exact h2
                      subst hmn
                      clear HM hlt HR1 HR2 HUP
                      go_wp2_with fail
                      refine (unhide HAW7 _ (unhide HBW)).mono ?_
                      rintro e w8 ⟨rfl, hw⟩
                      have HB := hide hw
                      clear hw
                      go_wp2_with fail
                      go_ret
                      exact ⟨rfl, unhide HB⟩

              · have es := unhide HZ hE
                have HPR7 := hide (print_any (B := ⟨w, w5, Y5⟩) (unhide HPW1) (unhide HFX7) (by omega))
                rw [es, ← unhide HPS] at HPR7
                have hEb : (E == 0) = false := by simpa using hE
                have HAF := hide (fun w8 (h : Below w7.heap.size w7 w8) => unhide HAWG w8 _ ((unhide HFX7).nd.env.below h) rfl)
                clear es HZ HNZ hE
                go_wp2_with fail
                refine (unhide HPR7).mono ?_
                rintro e w8 ⟨rfl, hw⟩
                have HA8 := hide (unhide HAF w8 hw)
                clear hw
                go_wp2_with fail
                refine (unhide HA8).mono ?_
                rintro e w9 ⟨rfl, hw⟩
                have HB := hide hw
                clear hw
                go_wp2_with fail
                go_ret
                exact ⟨rfl, unhide HB⟩

end Go.Proofs.YtghidcohgkajaaaGreatDoor

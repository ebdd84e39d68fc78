/-
  NamesMoves: what is renamed in the root is walked to by its new name.
-/
import Derived.Test.YtghidcohgkajaaaGreatDoorM23
import Derived.Test.YtghidcohgkajaaaGreatDoorNMovP
namespace Go.Proofs.YtghidcohgkajaaaGreatDoor
open Go.RowKit Go.Maps

theorem BA_app (a b : List UInt8) : BA a ++ BA b = BA (a ++ b) := by
  apply ByteArray.ext
  simp [BA, ByteArray.data_append]
set_option maxRecDepth 20000 in
set_option maxHeartbeats 8000000 in
theorem moves_walk (v : Value) (L : List Op13) (p t : List UInt8) (w : World) (E : EnvB w (Bas.of w)) (hpw : PowB (Bas.of w)) (hl : ORow w v L) (LK : ∀ f q Y nb, LkAt f q Y nb (Bas.of w)) : Calls Tryz.prog 7 #[v, .string (BA p), .string (BA t)] w fun e w' => e = .returned (.bool true) ∧ Below w.heap.size w w' := by
  obtain ⟨ad, cap, rfl, hrow⟩ := hl
  have HNW := hide (nnew_any 30 30 w E (by decide) (by decide) (by decide) (by decide))
  have HROW := hide hrow
  have HPW := hide hpw
  have HLK := hide LK
  have HAW : Hid (∀ W, EnvB W (Bas.of w) → Calls Tryz.prog 11 #[] W fun e w' => e = .returned (.bool true) ∧ Below w.heap.size w w') := hide (fun W hW => (awake_any W hW.self).mono (fun e w' ⟨h1, h2⟩ => ⟨h1, hW.bel.trans (h2.mono hW.bel.size)⟩))
  clear hrow hpw LK E
  obtain ⟨len, hlen⟩ : ∃ len, len = L.length := ⟨_, rfl⟩
  rw [← hlen]
  have HLN := hide hlen
  clear hlen
  obtain ⟨A, hA⟩ : ∃ A, A = BA p := ⟨_, rfl⟩
  obtain ⟨C, hC⟩ : ∃ C, C = BA t := ⟨_, rfl⟩
  obtain ⟨la, hla⟩ : ∃ la, la = p.length := ⟨_, rfl⟩
  obtain ⟨lc, hlc⟩ : ∃ lc, lc = t.length := ⟨_, rfl⟩
  have hAs : A.size = la := by rw [hA, hla]; rfl
  have hCs : C.size = lc := by rw [hC, hlc]; rfl
  rw [← hA, ← hC]
  have HA0 := hide hA
  have HC0 := hide hC
  have HLA := hide hla
  have HLC := hide hlc
  clear hA hC hla hlc
  go_enter Tryz.func7, Tryz.ntmps7
  go_wp2_with fail
  refine (unhide HNW).mono ?_
  rintro e w1 ⟨f, q, rfl, HN1⟩
  obtain ⟨Y, hfx, hY, _, _⟩ := unhide HN1
  have HFX := hide hfx
  have HEN := hide hfx.nd.env
  have HYB := hide hY
  clear HN1 HNW hfx hY
  by_cases hbig : (400 : Int) < (la : Int)
  · have HA := hide (unhide HAW w1 (unhide HEN))
    clear HFX HYB HROW HLK
    go_wp2_with fail
    refine (unhide HA).mono ?_
    rintro e w2 ⟨rfl, hw⟩
    have HB := hide hw
    clear hw
    go_wp2_with fail
    go_ret
    exact ⟨rfl, unhide HB⟩
  by_cases hbig2 : (400 : Int) < (lc : Int)
  · have HA := hide (unhide HAW w1 (unhide HEN))
    clear HFX HYB HROW HLK
    go_wp2_with fail
    refine (unhide HA).mono ?_
    rintro e w2 ⟨rfl, hw⟩
    have HB := hide hw
    clear hw
    go_wp2_with fail
    go_ret
    exact ⟨rfl, unhide HB⟩
  obtain ⟨l, hl⟩ : ∃ l, l = p ++ t := ⟨_, rfl⟩
  have HSZ : Hid (l.length = la + lc) := hide (by rw [hl, List.length_append, unhide HLA, unhide HLC])
  have HAC : Hid (A ++ C = BA l) := hide (by rw [unhide HA0, unhide HC0, hl]; exact BA_app p t)
  have HLL := hide hl
  clear hl
  go_wp2_with fail
  go_loop [9] (fun v => ∃ j : Nat, v = .int .i64 (j : Int) ∧ j ≤ la + lc ∧ Hid (∀ c ∈ l.take j, c ≠ 47)) (fun v => la + lc - (intOf v).toNat)
  case atStart => exact ⟨0, rfl, Nat.zero_le _, hide (by simp)⟩
  case round =>
    obtain ⟨j, rfl, hj, HJ⟩ := hrel
    by_cases hlt : j < la + lc
    · have h1 : (j : Int) < (la : Int) + (lc : Int) := by omega
      have h0 : (0 : Int) ≤ (j : Int) := by omega
      have hjs : j < (A ++ C).size := by rw [ByteArray.size_append]; omega
      have hjl : j < l.length := by have := unhide HSZ; omega
      have hget : (A ++ C)[j]'hjs = l[j] := by
        have e := unhide HAC
        have : ∀ (X : ByteArray) (h : j < X.size), X = BA l → X[j]'h = l[j] := fun X h e2 => by subst e2; rfl
        exact this _ hjs e
      cases hb : ((((A ++ C)[j]'hjs).toNat : Int) == 47) with
      | true =>
        have HA := hide (unhide HAW w1 (unhide HEN))
        clear HFX HYB HROW HLK HJ hget
        go_wp2_with fail
        refine (unhide HA).mono ?_
        rintro e w2 ⟨rfl, hw⟩
        have HB := hide hw
        clear hw
        go_wp2_with fail
        go_ret
        exact ⟨rfl, unhide HB⟩
      | false =>
        have HJ2 : Hid (∀ c ∈ l.take (j + 1), c ≠ 47) := hide (by
          rw [List.take_succ_eq_append_getElem hjl]
          intro c hc
          rw [List.mem_append] at hc
          rcases hc with hc | hc
          · exact unhide HJ c hc
          · rw [List.mem_singleton] at hc
            rw [hc, ← hget]
            intro e
            rw [e] at hb
            exact absurd hb (by decide))
        clear HJ hget
        go_wp2_with fail
        go_round
        case rel => exact ⟨j + 1, by go_num, by omega, HJ2⟩
        case measure => simp [intOf]; omega
    · have h1 : ¬ (j : Int) < (la : Int) + (lc : Int) := by omega
      have HP : Hid ((∀ c ∈ p, c ≠ 47) ∧ ∀ c ∈ t, c ≠ 47) := hide (by
        have e := unhide HJ
        rw [List.take_of_length_le (by have := unhide HSZ; omega), unhide HLL] at e
        exact ⟨fun c hc => e c (List.mem_append_left _ hc), fun c hc => e c (List.mem_append_right _ hc)⟩)
      clear HJ hlt HAC HSZ HLL hj
      go_wp2_with fail
      obtain ⟨FXX, hFXX⟩ : ∃ P : World → NS → Nat → Prop, P = fun wr s n => FX wr f q Y s 30 n (Bas.of w) := ⟨_, rfl⟩
      have hL1 : ∀ wr s n, FXX wr s n → FX wr f q Y s 30 n (Bas.of w) := fun wr s n h => by rw [hFXX] at h; exact h
      have hL2 : ∀ wr s n, FX wr f q Y s 30 n (Bas.of w) → FXX wr s n := fun wr s n h => by rw [hFXX]; exact h
      have HL1 := hide hL1
      have HL2 := hide hL2
      clear hFXX hL1 hL2
      replace HFX := hide (unhide HL2 _ _ _ (unhide HFX))
      go_loopw [10] (fun v wr => ∃ (j : Nat) (s : NS), v = .int .i64 (j : Int) ∧ j ≤ len ∧ j ≤ 40 ∧ Hid (FXX wr s (j + 1))) (fun v _ => len - (intOf v).toNat)
      case atStart => exact ⟨0, _, rfl, Nat.zero_le _, Nat.zero_le _, HFX⟩
      case round =>
        clear HFX HEN
        obtain ⟨j, s, rfl, hjl, hjm, HT⟩ := hrel
        by_cases hin : j < len ∧ j < 40
        · obtain ⟨hlt, hltm⟩ := hin
          have h1 : (j : Int) < (len : Int) := by omega
          have h2 : (j : Int) < 40 := by omega
          have h0 : (0 : Int) ≤ (j : Int) := by omega
          obtain ⟨x, hx⟩ : ∃ x, L[j]? = some x := ⟨_, List.getElem?_eq_getElem (by have := unhide HLN; omega)⟩
          obtain ⟨⟨g', o', had, hg', hcell⟩, hok⟩ := unhide HROW j x hx
          have hfx := unhide HL1 _ _ _ (unhide HT)
          have HCC : Hid (∀ W, FXX W s (j + 1) → ∀ c v, w.cell? ⟨g', c, none⟩ = some v → W.cell? ⟨g', c, none⟩ = some v) := hide (fun W hW c v h => ((unhide HL1 _ _ _ hW).nd.env.bel.cell (p := ⟨g', c, none⟩) hg').trans h)
          obtain ⟨oa, od, op, ot, on⟩ := x
          obtain ⟨e0, e1, e2, e3, e4⟩ := hcell
          simp only at e0 e1 e2 e3 e4
          have q0 := unhide HCC _ (unhide HT) _ _ e0
          have q1 := unhide HCC _ (unhide HT) _ _ e1
          have q2 := unhide HCC _ (unhide HT) _ _ e2
          have q3 := unhide HCC _ (unhide HT) _ _ e3
          have q4 := unhide HCC _ (unhide HT) _ _ e4
          have HCE := hide (And.intro e0 (And.intro e1 (And.intro e2 (And.intro e3 e4))))
          have HFW := hide (few_any ⟨oa, od, op, ot, on⟩ wr)
          simp only at HFW
          have HBW : Hid (∀ W, Below wr.heap.size wr W → FXX W s (j + 1)) := hide (fun W hW => unhide HL2 _ _ _ (hfx.below hW))
          have HDO : Hid (∀ W, FXX W s (j + 1) → (⟨oa, od, op, ot, on⟩ : Op13).few = true → Calls Tryz.prog 18 #[.pointer (some ⟨f, 0, none⟩), .agg #[.int .i64 oa, .int .i64 od, .string (BA op), .string (BA ot), .int .i64 on]] W fun e w' => ∃ N E, e = .returned (.tuple #[.int .i64 N, .int .i64 E]) ∧ Hid (∃ s', FXX w' s' (j + 1 + 1))) := hide (fun W hW hf => (do_any (unhide HLK f q Y 30) (unhide HL1 _ _ _ hW) (by omega) ⟨oa, od, op, ot, on⟩ hok hf).mono (fun e w' h => by
            obtain ⟨N, E, h1, h2⟩ := h
            obtain ⟨s', _, h3⟩ := unhide h2
            exact ⟨N, E, h1, hide ⟨s', unhide HL2 _ _ _ h3⟩⟩))
          obtain ⟨fw, hfw⟩ : ∃ fw, fw = (⟨oa, od, op, ot, on⟩ : Op13).few := ⟨_, rfl⟩
          rw [← hfw] at HFW HDO
          subst had
          clear hx e0 e1 e2 e3 e4 hok hfx HROW HLN hfw 
          cases fw with
          | false =>
            clear HDO HCC HCE
            go_wp2_with fail
            refine (unhide HFW).mono ?_
            rintro e w2 ⟨rfl, hw⟩
            have HA := hide (unhide HAW w2 (unhide HL1 _ _ _ (unhide HBW _ hw)).nd.env)
            clear hw
            go_wp2_with fail
            refine (unhide HA).mono ?_
            rintro e w3 ⟨rfl, hw⟩
            have HB := hide hw
            clear hw
            go_wp2_with fail
            go_ret
            exact ⟨rfl, unhide HB⟩
          | true =>
            go_wp2_with fail
            refine (unhide HFW).mono ?_
            rintro e w2 ⟨rfl, hw⟩
            have HT2 := hide (unhide HBW _ hw)
            obtain ⟨e0, e1, e2, e3, e4⟩ := unhide HCE
            have r0 := unhide HCC _ (unhide HT2) _ _ e0
            have r1 := unhide HCC _ (unhide HT2) _ _ e1
            have r2 := unhide HCC _ (unhide HT2) _ _ e2
            have r3 := unhide HCC _ (unhide HT2) _ _ e3
            have r4 := unhide HCC _ (unhide HT2) _ _ e4
            have HD := hide (unhide HDO _ (unhide HT2) (by first | rfl | trivial))
            clear HDO HCC HCE HFW e0 e1 e2 e3 e4 q0 q1 q2 q3 q4 HBW HT hw
            by_cases h10 : oa < 10
            · go_wp2_with fail
              refine (unhide HD).mono ?_
              rintro e w3 ⟨N, E, rfl, HX⟩
              obtain ⟨s', hs'⟩ := unhide HX
              have HS := hide hs'
              clear HX hs' HD
              go_wp2_with fail
              go_roundw
              case rel => exact ⟨j + 1, s', by go_num, by omega, by omega, HS⟩
              case measure => simp [intOf]; omega
            · clear HD
              have h10b : decide (oa < 10) = false := by simpa using h10
              go_wp2_with fail
              go_roundw
              case rel => exact ⟨j + 1, s, by go_num, by omega, by omega, hide (unhide HL2 _ _ _ ((unhide HL1 _ _ _ (unhide HT2)).mono (Nat.le_succ _)))⟩
              case measure => simp [intOf]; omega
        · have HLAW : Hid (∀ W, FXX W s (j + 1) → Calls Tryz.prog 11 #[] W fun e w' => e = .returned (.bool true) ∧ Below w.heap.size w w') := hide (fun W hW => unhide HAW W (unhide HL1 _ _ _ hW).nd.env)
          go_upto_region 10 with fail
          go_cut [72] from 65 to 72 (fun v wx => v = .bool false ∧ wx = wr)
          case first =>
            clear HT HROW HLK HLAW
            by_cases hlt : j < len
            · have h1 : (j : Int) < (len : Int) := by omega
              have h2 : ¬ (j : Int) < 40 := by omega
              go_wp2
              go_meet
              exact ⟨rfl, rfl⟩
            · have h1 : ¬ (j : Int) < (len : Int) := by omega
              go_wp2
              go_meet
              exact ⟨rfl, rfl⟩
          case rest =>
            obtain ⟨rfl, hcw⟩ := hcut
            have hcw2 := hcw.symm
            subst hcw2
            clear HROW HLN HLK hjl HLAW hin hcw
            have hj1 : j + 1 ≤ 41 := by omega
            obtain ⟨n, hn⟩ : ∃ n, n = j + 1 := ⟨_, rfl⟩
            rw [← hn] at HT hj1
            have hfx := unhide HL1 _ _ _ (unhide HT)
            have HINV := hide hfx.nd.ok.inv
            obtain ⟨a, ha⟩ : ∃ a, a = (walkN s 1 p false).1 := ⟨_, rfl⟩
            obtain ⟨g, hg⟩ : ∃ g, g = (walkN s 1 p false).2 := ⟨_, rfl⟩
            obtain ⟨b, hb⟩ : ∃ b, b = (walkN s 1 t false).1 := ⟨_, rfl⟩
            obtain ⟨h, hh⟩ : ∃ h, h = (walkN s 1 t false).2 := ⟨_, rfl⟩
            obtain ⟨E, hE⟩ : ∃ E, E = mvE s p t := ⟨_, rfl⟩
            obtain ⟨s2, hs2⟩ : ∃ s2, s2 = mvS s p t := ⟨_, rfl⟩
            have HWK : Hid (∀ W, FXX W s n → Calls Tryz.prog 24 #[.pointer (some ⟨f, 0, none⟩), .int .i64 1, .string A, .bool false] W fun e w' => e = .returned (.tuple #[.int .i64 a, .int .i64 g]) ∧ Hid (FXX w' s n)) := hide (fun W hW => by
              rw [unhide HA0, ha, hg]
              exact (walk_any (unhide HL1 _ _ _ hW) 1 p false (by decide) (by have := unhide HLA; omega)).mono (fun e w' h => ⟨h.1, hide (unhide HL2 _ _ _ ((unhide HL1 _ _ _ hW).below h.2))⟩))
            have HWT : Hid (∀ W, FXX W s n → Calls Tryz.prog 24 #[.pointer (some ⟨f, 0, none⟩), .int .i64 1, .string C, .bool false] W fun e w' => e = .returned (.tuple #[.int .i64 b, .int .i64 h]) ∧ Hid (FXX w' s n)) := hide (fun W hW => by
              rw [unhide HC0, hb, hh]
              exact (walk_any (unhide HL1 _ _ _ hW) 1 t false (by decide) (by have := unhide HLC; omega)).mono (fun e w' h => ⟨h.1, hide (unhide HL2 _ _ _ ((unhide HL1 _ _ _ hW).below h.2))⟩))
            have HRN : Hid (∀ W, FXX W s n → Calls Tryz.prog 39 #[.pointer (some ⟨f, 0, none⟩), .int .i64 1, .string A, .string C] W fun e w' => e = .returned (.int .i64 E) ∧ Hid (FXX w' s2 (n + 1))) := hide (fun W hW => by
              rw [unhide HA0, unhide HC0, hE, hs2]
              exact (rename_any (unhide HL1 _ _ _ hW) (by omega) 1 p t (by decide) (by have := unhide HLA; omega) (by have := unhide HLC; omega)).mono (fun e w' h => ⟨h.1, hide (unhide HL2 _ _ _ (unhide h.2))⟩))
            have HPR : Hid (∀ W s' n', n' ≤ 50 → FXX W s' n' → Calls Tryz.prog 22 #[.pointer (some ⟨f, 0, none⟩)] W fun e w' => e = .returned (.string (BA (prT s'))) ∧ Hid (FXX w' s' n')) := hide (fun W s' n' hn' hW => (print_any (unhide HPW) (unhide HL1 _ _ _ hW) (by omega)).mono (fun e w' h => ⟨h.1, hide (unhide HL2 _ _ _ ((unhide HL1 _ _ _ hW).below h.2))⟩))
            have HLW2 : Hid (∀ W s' n', FXX W s' n' → Calls Tryz.prog 11 #[] W fun e w' => e = .returned (.bool true) ∧ Below w.heap.size w w') := hide (fun W s' n' hW => unhide HAW W (unhide HL1 _ _ _ hW).nd.env)
            have HPU := hide (fun h0 => moves_pure (unhide HINV) (unhide HP).1 (unhide HP).2 h0)
            have HER := hide (fun h0 => mv_err (s := s) (p := p) (q := t) h0)
            rw [← hE, ← hs2, ← ha, ← hg, ← hb, ← hh] at HPU
            rw [← hE, ← hs2] at HER
            have HW2 : Hid (∀ W, FXX W s2 (n + 1) → walkN s2 1 t false = (a, 0) → Calls Tryz.prog 24 #[.pointer (some ⟨f, 0, none⟩), .int .i64 1, .string C, .bool false] W fun e w' => e = .returned (.tuple #[.int .i64 a, .int .i64 0]) ∧ Hid (FXX w' s2 (n + 1))) := hide (fun W hW e0 => by
              rw [unhide HC0]
              have h1 := walk_any (unhide HL1 _ _ _ hW) 1 t false (by decide) (by have := unhide HLC; omega)
              rw [e0] at h1
              exact h1.mono (fun e w' h => ⟨h.1, hide (unhide HL2 _ _ _ ((unhide HL1 _ _ _ hW).below h.2))⟩))
            have HW3 : Hid (∀ W, FXX W s2 (n + 1) → (walkN s2 1 p false).2 = 23 → Calls Tryz.prog 24 #[.pointer (some ⟨f, 0, none⟩), .int .i64 1, .string A, .bool false] W fun e w' => ∃ N, e = .returned (.tuple #[.int .i64 N, .int .i64 23]) ∧ Hid (FXX w' s2 (n + 1))) := hide (fun W hW e0 => by
              rw [unhide HA0]
              have h1 := walk_any (unhide HL1 _ _ _ hW) 1 p false (by decide) (by have := unhide HLA; omega)
              rw [e0] at h1
              exact h1.mono (fun e w' h => ⟨_, h.1, hide (unhide HL2 _ _ _ ((unhide HL1 _ _ _ hW).below h.2))⟩))
            clear hfx hn ha hg hb hh hE hs2 HAW HLA HLC HINV HPW HL1 HL2 HA0 HC0
            go_wp2_with fail
            refine (unhide HWK wr (unhide HT)).mono ?_
            rintro e w2 ⟨rfl, HT2⟩
            clear HT HWK
            go_wp2_with fail
            refine (unhide HWT w2 (unhide HT2)).mono ?_
            rintro e w3 ⟨rfl, HT3⟩
            clear HT2 HWT
            go_wp2_with fail
            refine (unhide HPR w3 s n (by omega) (unhide HT3)).mono ?_
            rintro e w4 ⟨rfl, HT4⟩
            clear HT3
            obtain ⟨PS, hPS⟩ : ∃ PS, PS = BA (prT s) := ⟨_, rfl⟩
            have HPS := hide hPS
            rw [← hPS]
            clear hPS
            go_wp2_with fail
            refine (unhide HRN w4 (unhide HT4)).mono ?_
            rintro e w5 ⟨rfl, HT5⟩
            clear HT4 HRN
            by_cases hE0 : E = 0
            · obtain ⟨g0, hsame, hmove⟩ := unhide HPU hE0
              have HSM := hide hsame
              have HMV := hide hmove
              subst hE0 g0
              clear HPU HER hsame hmove
              by_cases hs : h = 0 ∧ a = b
              · have es := unhide HSM hs
                obtain ⟨rfl, rfl⟩ := hs
                have es2 := es.symm
                subst es2
                clear es HSM HMV
                go_wp2_with fail
                refine (unhide HPR w5 _ (n + 1) (by omega) (unhide HT5)).mono ?_
                rintro e w6 ⟨rfl, HT6⟩
                rw [← unhide HPS]
                go_wp2_with fail
                refine (unhide HLW2 w6 _ (n + 1) (unhide HT6)).mono ?_
                rintro e w7 ⟨rfl, hw⟩
                have HB := hide hw
                clear hw
                go_wp2_with fail
                go_ret
                exact ⟨rfl, unhide HB⟩
              · obtain ⟨m1, m2⟩ := unhide HMV hs
                have HM1 := hide m1
                have HM2 := hide m2
                clear m1 m2 HSM HMV
                have hcb : ∀ w' : World, (h == 0) = true → (a == b) = false := fun _ e0 => by
                  simp at e0 ⊢
                  exact fun e => hs ⟨e0, e⟩
                cases hc : (h == 0) with
                | true =>
                  have hcb2 := hcb w hc
                  clear hcb hs
                  go_wp2_with fail
                  refine (unhide HW2 w5 (unhide HT5) (unhide HM1)).mono ?_
                  rintro e w6 ⟨rfl, HT6⟩
                  go_wp2_with fail
                  refine (unhide HW3 w6 (unhide HT6) (unhide HM2)).mono ?_
                  rintro e w7 ⟨N, rfl, HT7⟩
                  go_wp2_with fail
                  refine (unhide HLW2 w7 s2 (n + 1) (unhide HT7)).mono ?_
                  rintro e w8 ⟨rfl, hw⟩
                  have HB := hide hw
                  clear hw
                  go_wp2_with fail
                  go_ret
                  exact ⟨rfl, unhide HB⟩
                | false =>
                  clear hcb hs
                  go_wp2_with fail
                  refine (unhide HW2 w5 (unhide HT5) (unhide HM1)).mono ?_
                  rintro e w6 ⟨rfl, HT6⟩
                  go_wp2_with fail
                  refine (unhide HW3 w6 (unhide HT6) (unhide HM2)).mono ?_
                  rintro e w7 ⟨N, rfl, HT7⟩
                  go_wp2_with fail
                  refine (unhide HLW2 w7 s2 (n + 1) (unhide HT7)).mono ?_
                  rintro e w8 ⟨rfl, hw⟩
                  have HB := hide hw
                  clear hw
                  go_wp2_with fail
                  go_ret
                  exact ⟨rfl, unhide HB⟩
            · have es := unhide HER hE0
              have es2 := es.symm
              subst es2
              have hEb : (E == 0) = false := by simpa using hE0
              clear es HPU HER
              go_wp2_with fail
              refine (unhide HPR w5 _ (n + 1) (by omega) (unhide HT5)).mono ?_
              rintro e w6 ⟨rfl, HT6⟩
              rw [← unhide HPS]
              go_wp2_with fail
              refine (unhide HLW2 w6 _ (n + 1) (unhide HT6)).mono ?_
              rintro e w7 ⟨rfl, hw⟩
              have HB := hide hw
              clear hw
              go_wp2_with fail
              go_ret
              exact ⟨rfl, unhide HB⟩

end Go.Proofs.YtghidcohgkajaaaGreatDoor

/-
  NamesTree, given what tree answers: each node's names are as many as lead to it.
-/
import Derived.Test.YtghidcohgkajaaaGreatDoorM23
namespace Go.Proofs.YtghidcohgkajaaaGreatDoor
open Go.RowKit Go.Maps

/-- How many names lead to a node (the root has one more). -/
def leadsN (s : NS) (k : Nat) : Nat := s.L.countP (fun x => decide (x.node = (k : Int)))
/-- What the law asks of tree. -/
def TreeAt (f q : Nat) (Y : Nat → Prop) (nb : Nat) (B : Bas) : Prop := ∀ (W : World) (s : NS) (n : Nat), FX W f q Y s nb n B → n ≤ 100 → s.T.length ≤ 39 → Calls Tryz.prog 38 #[.pointer (some ⟨f, 0, none⟩)] W fun e w' => ∃ c, e = .returned (.tuple #[.slice (some ⟨c, 0, none⟩) 40 40, .bool true]) ∧ Hid (W.heap.size ≤ c ∧ Blk w' c 3 ((List.range 40).map (fun k => Value.int .i64 (leadsN s k : Int))).toArray ∧ Below W.heap.size W w')
set_option maxRecDepth 100000 in
set_option maxHeartbeats 16000000 in
theorem treelaw_walk (v : Value) (L : List Op13) (w : World) (E : EnvB w (Bas.of w)) (hl : ORow w v L) (LK : ∀ f q Y nb B, LkAt f q Y nb B) (TR : ∀ f q Y nb B, TreeAt f q Y nb B) : Calls Tryz.prog 5 #[v] w fun e w' => e = .returned (.bool true) ∧ Below w.heap.size w w' := by
  obtain ⟨ad, cap, rfl, hrow⟩ := hl
  have HNW := hide (nnew_any 39 60 w E (by decide) (by decide) (by decide) (by decide))
  have HROW := hide hrow
  have HLK := hide LK
  have HTRE := hide TR
  have HAW : Hid (∀ W, EnvB W (Bas.of w) → Calls Tryz.prog 11 #[] W fun e w' => e = .returned (.bool true) ∧ Below w.heap.size w w') := hide (fun W hW => (awake_any W hW.self).mono (fun e w' ⟨h1, h2⟩ => ⟨h1, hW.bel.trans (h2.mono hW.bel.size)⟩))
  clear hrow LK E TR
  obtain ⟨len, hlen⟩ : ∃ len, len = L.length := ⟨_, rfl⟩
  rw [← hlen]
  have HLN := hide hlen
  clear hlen
  go_enter Tryz.func5, Tryz.ntmps5
  go_wp2_with fail
  refine (unhide HNW).mono ?_
  rintro e w1 ⟨f, q, rfl, HN1⟩
  obtain ⟨Y, hfx, hY, _, _⟩ := unhide HN1
  have HFX := hide hfx
  have HEN := hide hfx.nd.env
  clear HN1 HNW hfx hY
  go_wp2_with fail
  obtain ⟨FXX, hFXX⟩ : ∃ P : World → NS → Nat → Prop, P = fun wr s n => FX wr f q Y s 60 n (Bas.of w) ∧ s.T.length = 39 := ⟨_, rfl⟩
  have hL1 : ∀ wr s n, FXX wr s n → FX wr f q Y s 60 n (Bas.of w) := fun wr s n h => by rw [hFXX] at h; exact h.1
  have hL2 : ∀ wr s n, FX wr f q Y s 60 n (Bas.of w) → s.T.length = 39 → FXX wr s n := fun wr s n h h2 => by rw [hFXX]; exact ⟨h, h2⟩
  have hL3 : ∀ wr s n, FXX wr s n → s.T.length = 39 := fun wr s n h => by rw [hFXX] at h; exact h.2
  have HL3 := hide hL3
  have HL1 := hide hL1
  have HL2 := hide hL2
  clear hFXX hL1 hL2 hL3
  replace HFX := hide (unhide HL2 _ _ _ (unhide HFX) (by decide))
  go_loopw [5] (fun v wr => ∃ (j : Nat) (s : NS), v = .int .i64 (j : Int) ∧ j ≤ len ∧ j ≤ 60 ∧ Hid (FXX wr s (j + 1))) (fun v _ => len - (intOf v).toNat)
  case atStart => exact ⟨0, _, rfl, Nat.zero_le _, Nat.zero_le _, HFX⟩
  case round =>
    clear HFX HEN
    obtain ⟨j, s, rfl, hjl, hjm, HT⟩ := hrel
    by_cases hin : j < len ∧ j < 60
    · obtain ⟨hlt, hltm⟩ := hin
      have h1 : (j : Int) < (len : Int) := by omega
      have h2 : (j : Int) < 60 := by omega
      have h0 : (0 : Int) ≤ (j : Int) := by omega
      obtain ⟨x, hx⟩ : ∃ x, L[j]? = some x := ⟨_, List.getElem?_eq_getElem (by have := unhide HLN; omega)⟩
      obtain ⟨⟨g', o', had, hg', hcell⟩, hok⟩ := unhide HROW j x hx
      have hfx := unhide HL1 _ _ _ (unhide HT)
      have HCC : Hid (∀ W, FXX W s (j + 1) → ∀ c v, w.cell? ⟨g', c, none⟩ = some v → W.cell? ⟨g', c, none⟩ = some v) := hide (fun W hW c v h => ((unhide HL1 _ _ _ hW).nd.env.bel.cell (p := ⟨g', c, none⟩) hg').trans h)
      obtain ⟨oa, od, op, ot, on⟩ := x
      obtain ⟨e0, e1, e2, e3, e4⟩ := hcell
      simp only at e0 e1 e2 e3 e4
      have q0 := unhide HCC _ (unhide HT) _ _ e0
      have q1 := unhide HCC _ (unhide HT) _ _ e1
      have q2 := unhide HCC _ (unhide HT) _ _ e2
      have q3 := unhide HCC _ (unhide HT) _ _ e3
      have q4 := unhide HCC _ (unhide HT) _ _ e4
      have HCE := hide (And.intro e0 (And.intro e1 (And.intro e2 (And.intro e3 e4))))
      have HFW := hide (few_any ⟨oa, od, op, ot, on⟩ wr)
      simp only at HFW
      have HBW : Hid (∀ W, Below wr.heap.size wr W → FXX W s (j + 1)) := hide (fun W hW => unhide HL2 _ _ _ (hfx.below hW) (unhide HL3 _ _ _ (unhide HT)))
      have HDO : Hid (∀ W, FXX W s (j + 1) → (⟨oa, od, op, ot, on⟩ : Op13).few = true → Calls Tryz.prog 18 #[.pointer (some ⟨f, 0, none⟩), .agg #[.int .i64 oa, .int .i64 od, .string (BA op), .string (BA ot), .int .i64 on]] W fun e w' => ∃ N E, e = .returned (.tuple #[.int .i64 N, .int .i64 E]) ∧ Hid (∃ s', FXX w' s' (j + 1 + 1))) := hide (fun W hW hf => (do_any (unhide HLK f q Y 60 (Bas.of w)) (unhide HL1 _ _ _ hW) (by omega) ⟨oa, od, op, ot, on⟩ hok hf).mono (fun e w' h => by
        obtain ⟨N, E, h1, h2⟩ := h
        obtain ⟨s', hd, h3⟩ := unhide h2
        exact ⟨N, E, h1, hide ⟨s', unhide HL2 _ _ _ h3 (hd.len.trans (unhide HL3 _ _ _ hW))⟩⟩))
      obtain ⟨fw, hfw⟩ : ∃ fw, fw = (⟨oa, od, op, ot, on⟩ : Op13).few := ⟨_, rfl⟩
      rw [← hfw] at HFW HDO
      subst had
      clear hx e0 e1 e2 e3 e4 hok hfx HROW HLN hfw 
      cases fw with
      | false =>
        clear HDO HCC HCE
        go_wp2_with fail
        refine (unhide HFW).mono ?_
        rintro e w2 ⟨rfl, hw⟩
        have HA := hide (unhide HAW w2 (unhide HL1 _ _ _ (unhide HBW _ hw)).nd.env)
        clear hw
        go_wp2_with fail
        refine (unhide HA).mono ?_
        rintro e w3 ⟨rfl, hw⟩
        have HB := hide hw
        clear hw
        go_wp2_with fail
        go_ret
        exact ⟨rfl, unhide HB⟩
      | true =>
        go_wp2_with fail
        refine (unhide HFW).mono ?_
        rintro e w2 ⟨rfl, hw⟩
        have HT2 := hide (unhide HBW _ hw)
        obtain ⟨e0, e1, e2, e3, e4⟩ := unhide HCE
        have r0 := unhide HCC _ (unhide HT2) _ _ e0
        have r1 := unhide HCC _ (unhide HT2) _ _ e1
        have r2 := unhide HCC _ (unhide HT2) _ _ e2
        have r3 := unhide HCC _ (unhide HT2) _ _ e3
        have r4 := unhide HCC _ (unhide HT2) _ _ e4
        have HD := hide (unhide HDO _ (unhide HT2) (by first | rfl | trivial))
        clear HDO HCC HCE HFW e0 e1 e2 e3 e4 q0 q1 q2 q3 q4 HBW HT hw
        by_cases h10 : oa < 10
        · go_wp2_with fail
          refine (unhide HD).mono ?_
          rintro e w3 ⟨N, E, rfl, HX⟩
          obtain ⟨s', hs'⟩ := unhide HX
          have HS := hide hs'
          clear HX hs' HD
          go_wp2_with fail
          go_roundw
          case rel => exact ⟨j + 1, s', by go_num, by omega, by omega, HS⟩
          case measure => simp [intOf]; omega
        · clear HD
          have h10b : decide (oa < 10) = false := by simpa using h10
          go_wp2_with fail
          go_roundw
          case rel => exact ⟨j + 1, s, by go_num, by omega, by omega, hide (unhide HL2 _ _ _ ((unhide HL1 _ _ _ (unhide HT2)).mono (Nat.le_succ _)) (unhide HL3 _ _ _ (unhide HT2)))⟩
          case measure => simp [intOf]; omega
    · have HLAW : Hid (∀ W, FXX W s (j + 1) → Calls Tryz.prog 11 #[] W fun e w' => e = .returned (.bool true) ∧ Below w.heap.size w w') := hide (fun W hW => unhide HAW W (unhide HL1 _ _ _ hW).nd.env)
      go_upto_region 5 with fail
      go_cut [28] from 21 to 28 (fun v wx => v = .bool false ∧ wx = wr)
      case first =>
        clear HT HROW HLK HLAW
        by_cases hlt : j < len
        · have h1 : (j : Int) < (len : Int) := by omega
          have h2 : ¬ (j : Int) < 60 := by omega
          go_wp2
          go_meet
          exact ⟨rfl, rfl⟩
        · have h1 : ¬ (j : Int) < (len : Int) := by omega
          go_wp2
          go_meet
          exact ⟨rfl, rfl⟩
      case rest =>
        obtain ⟨rfl, hcw⟩ := hcut
        have hcw2 := hcw.symm
        subst hcw2
        clear HROW HLN HLK hjl HLAW hin hcw
        have hj1 : j + 1 ≤ 61 := by omega
        obtain ⟨n, hn⟩ : ∃ n, n = j + 1 := ⟨_, rfl⟩
        rw [← hn] at HT hj1
        have hfx := unhide HL1 _ _ _ (unhide HT)
        have HFX := hide hfx
        have HTR1 := hide (unhide HTRE f q Y 60 (Bas.of w) wr s n hfx (by omega) (Nat.le_of_eq (unhide HL3 _ _ _ (unhide HT))))
        clear hfx hn HT HL1 HL2 HL3 HTRE
        go_wp2_with fail
        refine (unhide HTR1).mono ?_
        rintro e w2 ⟨c, rfl, HC⟩
        obtain ⟨hc0, hcb, hb2⟩ := unhide HC
        obtain ⟨l1, hl1⟩ : ∃ l1, l1 = leadsN s 1 := ⟨_, rfl⟩
        have hl1b : l1 ≤ 61 := by
          have h1 : leadsN s 1 ≤ s.L.length := List.countP_le_length
          have h2 := (unhide HFX).nd.ok.len
          omega
        have k1 : w2.cell? ⟨c, 1, none⟩ = some (.int .i64 (l1 : Int)) := by rw [hl1]; exact hcb.cell 1 rfl
        have k2 : w2.frozen? ⟨c, 1, none⟩ = false := hcb.frozen 1
        obtain ⟨w3, hw3⟩ : ∃ w3, w3 = w2.setCell ⟨c, 1, none⟩ (.int .i64 ((l1 : Int) + 1)) := ⟨_, rfl⟩
        have hlt2 := hcb.lt
        have HFX3 : Hid (FX w3 f q (fun k => Upto wr Y k ∨ w2.heap.size ≤ k) s 60 n (Bas.of w)) := hide (by
          have h := (unhide HFX).renew hb2
          have hg : GrownS w2 w3 (fun k => k = c) := by rw [hw3]; exact GrownS.of (grown_setCell w2 ⟨c, 1, none⟩ _) (fun k e => by injection e)
          have hf := (unhide HFX).blk.lt
          have hwr := (unhide HFX).nd.env.bel.size
          have hwr' : w.heap.size ≤ wr.heap.size := hwr
          refine ⟨h.nd.grownS hg (fun k _ hk e => ?_) (fun k e => ?_), h.blk.grownS hg (fun e => by omega), h.no, fun k hk => .inr ?_⟩
          · rcases hk with hk | hk
            · have := hk.2; omega
            · omega
          · exact ⟨by show w.heap.size ≤ k; omega, by show w.heap.size ≤ k; omega⟩
          · have := hg.size; omega)
        have HC3 : Hid (∀ i : Nat, i < 39 → w3.cell? ⟨c, i + 1, none⟩ = some (.int .i64 ((nmI s.T ((i : Int) + 1) : Nat) : Int))) := hide (fun i hi => by
          have hb3 := hcb.set 1 (.int .i64 ((l1 : Int) + 1))
          rw [← hw3] at hb3
          have hnm := (unhide HFX).nd.ok.inv.names ((i : Int) + 1)
          refine hb3.cell (i + 1) ?_
          by_cases h0 : i = 0
          · subst h0
            rw [Array.getElem?_setIfInBounds_self_of_lt (by simp)]
            rw [hnm, hl1]
            rfl
          · rw [Array.getElem?_setIfInBounds_ne (by omega), List.getElem?_toArray, List.getElem?_map, List.getElem?_range (by omega), hnm, if_neg (by omega)]
            rfl)
        have HNO : Hid (∀ i : Nat, kdI s.T ((i : Int) + 1) = 0 → nmI s.T ((i : Int) + 1) = 0) := hide (fun i h => by
          unfold kdI at h
          unfold nmI
          cases hx : ndAt s.T ((i : Int) + 1) with
          | none => rfl
          | some y =>
            rw [hx] at h
            obtain ⟨k, _, hk, _⟩ := ndAt_some hx
            have h1 := ((unhide HFX).nd.ok.gd k y hk).1.kind1
            change y.kind = 0 at h
            omega)
        have HNB : Hid (∀ i : Nat, nmI s.T ((i : Int) + 1) ≤ 62) := hide (fun i => by
          have h := (unhide HFX).nd.ok.inv.names ((i : Int) + 1)
          have h1 : s.L.countP (fun x => decide (x.node = (i : Int) + 1)) ≤ s.L.length := List.countP_le_length
          have h2 := (unhide HFX).nd.ok.len
          split at h <;> omega)
        have HW3 := hide hw3
        clear HC hc0 hcb hb2 hl1 hw3 HTR1
        go_upto_region 15 with fail
        rw [← unhide HW3]
        clear k1 k2 HW3 hlt2
        go_wp2_with fail
        go_loopw [8] (fun v wx => ∃ i : Nat, v = .int .i64 ((i : Int) + 1) ∧ i ≤ 39 ∧ Hid (Below w3.heap.size w3 wx)) (fun v _ => 41 - (intOf v).toNat)
        case atStart => exact ⟨0, rfl, Nat.zero_le _, hide (Below.refl _ _)⟩
        case round =>
          obtain ⟨i, rfl, hi39, HBW⟩ := hrel
          have hfx4 := (unhide HFX3).below (unhide HBW)
          by_cases hi : i < 39
          · have h1 : (i : Int) + 1 < 40 := by omega
            have h0 : (0 : Int) ≤ (i : Int) + 1 := by omega
            have HST := hide (stat_any hfx4 ((i : Int) + 1) ⟨by omega, by omega⟩)
            have HCC : Hid (∀ W, Below wr.heap.size wr W → W.cell? ⟨c, i + 1, none⟩ = some (.int .i64 ((nmI s.T ((i : Int) + 1) : Nat) : Int))) := hide (fun W h => by
              have h2 := (unhide HBW).trans (h.mono (unhide HBW).size)
              exact (h2.cell (p := ⟨c, i + 1, none⟩) (cell_lt (p := ⟨c, i + 1, none⟩) (unhide HC3 i hi))).trans (unhide HC3 i hi))
            have hnb := unhide HNB i
            have hno := unhide HNO i
            obtain ⟨K, hK⟩ : ∃ K : Int, K = (statK s ((i : Int) + 1) : Int) := ⟨_, rfl⟩
            obtain ⟨M, hM⟩ : ∃ M, M = nmI s.T ((i : Int) + 1) := ⟨_, rfl⟩
            rw [← hK, ← hM] at HST
            rw [← hM] at HCC hnb hno
            obtain ⟨Z, hZ⟩ : ∃ Z : Int, Z = (if kdI s.T ((i : Int) + 1) = 0 then 0 else (statZ s ((i : Int) + 1) : Int)) := ⟨_, rfl⟩
            rw [← hZ] at HST
            clear hfx4 hK hM hZ
            by_cases hk : kdI s.T ((i : Int) + 1) = 0
            · have hM0 := hno hk
              rw [if_pos hk, show statE s ((i : Int) + 1) = 23 from if_pos hk] at HST
              subst hM0
              clear hno hk hnb
              go_wp2_with fail
              refine (unhide HST).mono ?_
              rintro e w5 ⟨rfl, hw5⟩
              have kc := unhide HCC w5 hw5
              have HB5 := hide hw5
              clear hw5 HST
              have hx6 := Blk.new w5 55 #[.int .i64 K, .int .i64 Z, .int .i64 0]
              obtain ⟨W6, hW6⟩ : ∃ W6, W6 = w5.alloc (.cells #[.int .i64 K, .int .i64 Z, .int .i64 0] 55) := ⟨_, rfl⟩
              have hb6 : Below w5.heap.size w5 W6 := by rw [hW6]; exact (Below.refl _ _).alloc (Nat.le_refl _) _
              rw [← hW6] at hx6
              have kc6 : W6.cell? ⟨c, i + 1, none⟩ = some (.int .i64 0) := (hb6.cell (p := ⟨c, i + 1, none⟩) (cell_lt (p := ⟨c, i + 1, none⟩) kc)).trans kc
              obtain ⟨xb, hxb⟩ : ∃ xb, xb = w5.heap.size := ⟨_, rfl⟩
              rw [← hxb] at hx6
              have kx : W6.cell? ⟨xb, 2, none⟩ = some (.int .i64 0) := hx6.cell 2 rfl
              have HB6 := hide ((unhide HBW).trans ((((unhide HB5).trans (hb6.mono (unhide HB5).size))).mono (unhide HBW).size))
              have HW6 := hide hW6
              have HXB := hide hxb
              clear hb6 hx6 hW6 hxb kc
              go_wp2_with fail
              rw [← unhide HW6, ← unhide HXB]
              go_quiet (fail)
              go_wp2_with fail
              go_roundw
              case rel => exact ⟨i + 1, by go_num, by omega, hide ((unhide HB6).trans ((below_drew _ _).mono (unhide HB6).size))⟩
              case measure => simp [intOf]; omega
            · rw [if_neg hk, show statE s ((i : Int) + 1) = 0 from if_neg hk] at HST
              clear hno hk
              go_wp2_with fail
              refine (unhide HST).mono ?_
              rintro e w5 ⟨rfl, hw5⟩
              have kc := unhide HCC w5 hw5
              have HB5 := hide hw5
              clear hw5 HST
              have hx6 := Blk.new w5 55 #[.int .i64 K, .int .i64 Z, .int .i64 (M : Int)]
              obtain ⟨W6, hW6⟩ : ∃ W6, W6 = w5.alloc (.cells #[.int .i64 K, .int .i64 Z, .int .i64 (M : Int)] 55) := ⟨_, rfl⟩
              have hb6 : Below w5.heap.size w5 W6 := by rw [hW6]; exact (Below.refl _ _).alloc (Nat.le_refl _) _
              rw [← hW6] at hx6
              have kc6 : W6.cell? ⟨c, i + 1, none⟩ = some (.int .i64 (M : Int)) := (hb6.cell (p := ⟨c, i + 1, none⟩) (cell_lt (p := ⟨c, i + 1, none⟩) kc)).trans kc
              obtain ⟨xb, hxb⟩ : ∃ xb, xb = w5.heap.size := ⟨_, rfl⟩
              rw [← hxb] at hx6
              have kx : W6.cell? ⟨xb, 2, none⟩ = some (.int .i64 (M : Int)) := hx6.cell 2 rfl
              have HB6 := hide ((unhide HBW).trans ((((unhide HB5).trans (hb6.mono (unhide HB5).size))).mono (unhide HBW).size))
              have HW6 := hide hW6
              have HXB := hide hxb
              clear hb6 hx6 hW6 hxb kc
              go_wp2_with fail
              rw [← unhide HW6, ← unhide HXB]
              go_quiet (fail)
              go_wp2_with fail
              go_roundw
              case rel => exact ⟨i + 1, by go_num, by omega, hide ((unhide HB6).trans ((below_drew _ _).mono (unhide HB6).size))⟩
              case measure => simp [intOf]; omega
          · have h1 : ¬ (i : Int) + 1 < 40 := by omega
            have HA := hide (unhide HAW wr hfx4.nd.env)
            clear hfx4
            go_wp2_with fail
            refine (unhide HA).mono ?_
            rintro e w5 ⟨rfl, hw⟩
            have HB := hide hw
            clear hw
            go_wp2_with fail
            go_ret
            exact ⟨rfl, unhide HB⟩

end Go.Proofs.YtghidcohgkajaaaGreatDoor

/-
  A Word or an Io: the lexer's 'word'.
-/
import Derived.Test.YtlmpdfeidjnmnaaDoorAwait2
import Derived.Test.YtlmpdfeidjnmnaaDoorLoc
import Derived.Test.YtlmpdfeidjnmnaaDoorThingW
namespace Go.Proofs.YtlmpdfeidjnmnaaDoor
open Go.RowKit

theorem grownS_own {w w1 : World} {b : Nat} (hg : w.grownBy w1 (some b)) : GrownS w w1 (fun y => b ≤ y) := GrownS.of hg (fun x e => Nat.le_of_eq (by simpa using e.symm))
theorem hasP_head (l : List UInt8) (x : UInt8) : Lib.hasPrefix l [x] = (l.head? == some x) := by
  cases l with
  | nil => rfl
  | cons c l =>
    rw [hasP_one, List.head?_cons]
    by_cases h : c = x
    · subst h; simp
    · rw [beq_false_of_ne h]
      exact (beq_false_of_ne (fun e => h (by simpa using e))).symm

set_option maxRecDepth 100000 in
set_option maxHeartbeats 40000000 in
theorem word_state (w : World) (b : Nat) (v u : Value) (s : ByteArray) (r : Nat) (ps ks : List Nat) (st : LS) (m : Int) (h : LexAt w b v u s r ps ks st) (hf : st.flt = 0) (hw : st.wait.length ≤ 100000) (hl : st.toks.length ≤ 100000) (hm : w.cell? ⟨1, 0, none⟩ = some (.int .i64 m)) (hb1 : 1 < b) :
    Calls Tryd.prog 42 #[.pointer (some ⟨b, 0, none⟩)] w fun e w' => e = .returned (.tuple #[]) ∧ ∃ v' u' r' d' ps' ks', LexX w' b v' u' s r' d' ps' ks' (wordTok s.size st) ∧ GrownS w w' (fun y => b ≤ y) := by
  have hr := h.rdr
  rw [hf, h.zero hf] at hr
  have hrle := hr.le
  have hsl := hr.len
  have HRS := hide (h.rest hf)
  obtain ⟨T, hT⟩ : ∃ T, T = wordL (s.size - r + 1) (s.data.toList.drop r) := ⟨_, rfl⟩
  have HTR := hide hT.symm
  have c2 := hr.c2
  have HR0 := hide hr
  have HX := hide h.x
  have HM := hide hm
  have hbl := hr.blk.lt
  clear hT hr h hm
  go_enter Tryd.func42, Tryd.ntmps42
  go_wp2_with fail
  clear c2
  go_loopw [] (fun wr => ∃ (q d : Nat) (f bl : Int), Hid (Rdr wr b 53 [v, u] s q d f bl ∧ w.grownBy wr (some b) ∧ (f = 0 → r ≤ q) ∧ ((f = 0 ∧ bl = 0 ∧ d = 0 ∧ ∃ F, s.size - q + 1 ≤ F ∧ wordL F (s.data.toList.drop q) = T) ∨ (f ≠ 0 ∧ ∃ mm, T = .err f mm ∧ bl = ((s.size - mm.length : Nat) : Int))))) (fun wr => msr s b wr)
  case atStart => exact ⟨r, 0, 0, 0, hide ⟨unhide HR0, World.grownBy.refl w _, fun _ => Nat.le_refl _, .inl ⟨rfl, rfl, rfl, s.size - r + 1, Nat.le_refl _, unhide HTR⟩⟩⟩
  case round =>
    obtain ⟨q, d, f, bl, HI⟩ := hrel
    obtain ⟨hR, hG, hrq, hcase⟩ := unhide HI
    clear HI HR0
    have HG := hide hG
    clear hG
    rcases hcase with ⟨rfl, rfl, rfl, F, hF, hTT⟩ | ⟨hfe, mm, hTE, hBL⟩
    · have hrq := hrq rfl
      have HMS := hide hR.msr0
      have hqle := hR.le
      have hmo := more_any (hR.drewN 1)
      have c1 := hR.c1
      have c2 := hR.c2
      have HR := hide hR
      clear hR
      obtain ⟨F, rfl⟩ : ∃ g, F = g + 1 := ⟨F - 1, by omega⟩
      have HTT := hide hTT
      clear hTT
      by_cases hq : q < s.size
      · have hmb : moreB s q 0 = true := by unfold moreB; rw [decide_eq_true hq]; rfl
        rw [hmb] at hmo
        have HMO := hide hmo
        have hq' : (q : Int) < (s.size : Int) := by omega
        have hq0 : (0 : Int) ≤ (q : Int) := by omega
        clear hmo hmb
        rcases Bool.eq_false_or_eq_true (metB (s[q].toNat : Int)) with hme | hme
        · have HME : Hid (∀ W, Calls Tryd.prog 52 #[.int .u8 (s[q].toNat : Int)] W fun e w' => e = .returned (.bool true) ∧ Below W.heap.size W w') := hide (fun W => by
            have := meta_any (s[q].toNat : Int) W (byte_range _).1 (byte_range _).2
            rw [hme] at this
            exact this)
          have HTQ : Hid (wordL (s.size - r + 1) (s.data.toList.drop r) = .ok (s.data.toList.drop q)) := hide (by
            rw [unhide HTR, ← unhide HTT, drop_at hq, wordL_cons, if_pos hme])
          clear hme HMS
          go_wp2_with fail
          refine wp_region_held_drew (S := fun w' => w'.cell? ⟨b, 1, none⟩ = some (.string s) ∧ w'.cell? ⟨b, 2, none⟩ = some (.int .i64 (q : Int))) (by kernel_rfl) ⟨c1, c2⟩ (fun hHeld => ?_)
          refine wpAnyH_take (i := 0) (oi := { dst := some 9, op := Op.move (Operand.tmp 0), type := 75, pos := "tokens.go:82", after := #[], guard := none }) (v := ?_) rfl (by kernel_rfl) (by kernel_rfl) (by kernel_rfl) (fun _ _ _ h => h) (Or.inl ⟨by rfl, ?_⟩) (by assumption) ?_
          rotate_left
          · intro w hSw; (try dsimp only at hSw); go_simp; (try with_reducible rfl)
          simp only [Act.put, List.setIfInBounds_toArray, List.set_cons_zero, List.set_cons_succ]
          refine wpAnyH_take (i := 1) (oi := { dst := some 10, op := Op.nilCheck (Operand.tmp 9), type := 0, pos := "tokens.go:82", after := #[{ on := 0, ground := Ground.data }], guard := none }) (v := ?_) rfl (by kernel_rfl) (by kernel_rfl) (by kernel_rfl) (fun _ _ _ h => h) (Or.inl ⟨by rfl, ?_⟩) (by assumption) ?_
          rotate_left
          · intro w hSw; (try dsimp only at hSw); go_simp; (try with_reducible rfl)
          simp only [Act.put, List.setIfInBounds_toArray, List.set_cons_zero, List.set_cons_succ]
          refine wpAnyH_take (i := 2) (oi := { dst := some 11, op := Op.fieldAddr 53 (Operand.tmp 10) 0, type := 0, pos := "tokens.go:82", after := #[{ on := 1, ground := Ground.data }], guard := none }) (v := ?_) rfl (by kernel_rfl) (by kernel_rfl) (by kernel_rfl) (fun _ _ _ h => h) (Or.inl ⟨by rfl, ?_⟩) (by assumption) ?_
          rotate_left
          · intro w hSw; (try dsimp only at hSw); go_simp; (try with_reducible rfl)
          simp only [Act.put, List.setIfInBounds_toArray, List.set_cons_zero, List.set_cons_succ]
          refine wpAnyH_ready (rs := [3]) (by kernel_rfl) (by simp) ?_
          refine AllReadyH.cons (o := { dst := some 12, op := Op.call { callee := Callee.value (Operand.func 19), args := #[Operand.tmp 11], argTypes := #[44] }, type := 4, pos := "tokens.go:82", after := #[{ on := 2, ground := Ground.data }], guard := none }) rfl (fun KK hKK => ?_) AllReadyH.nil
          go_simp
          refine (unhide HMO).mono ?_
          rintro en w1 ⟨rfl, k1, hw1⟩
          have H1 : Hid (Rdr w1 b 53 [v, u] s q 0 0 0) := hide (by rw [hw1]; exact ((unhide HR).drewN 1).drewN k1)
          have G1 : Hid (w.grownBy w1 (some b)) := hide (by rw [hw1]; exact (unhide HG).trans (grown_but ((grown_drewN wr 1).trans (grown_drewN _ k1)) (some b)))
          clear hw1
          have y1 := (unhide H1).c1
          have y2 := (unhide H1).c2
          refine hKK.out _ _ ⟨y1, y2⟩ (fun hHeld => ?_)
          clear hKK KK
          try simp only [Act.put, List.setIfInBounds_toArray, List.set_cons_zero, List.set_cons_succ]
          refine wpAnyH_take (i := 4) (oi := { dst := some 13, op := Op.move (Operand.tmp 12), type := 4, pos := "tokens.go:82", after := #[{ on := 3, ground := Ground.data }, { on := 3, ground := Ground.chain }], guard := none }) (v := ?_) rfl (by kernel_rfl) (by kernel_rfl) (by kernel_rfl) (fun _ _ _ h => h) (Or.inl ⟨by rfl, ?_⟩) (by assumption) ?_
          rotate_left
          · intro w hSw; (try dsimp only at hSw); go_simp; (try with_reducible rfl)
          simp only [Act.put, List.setIfInBounds_toArray, List.set_cons_zero, List.set_cons_succ]
          refine wpAnyH_take (i := 5) (oi := { dst := some 14, op := Op.move (Operand.tmp 0), type := 75, pos := "tokens.go:82", after := #[{ on := 4, ground := Ground.guard }], guard := some (4, true) }) (v := ?_) rfl (by kernel_rfl) (by kernel_rfl) (by kernel_rfl) (fun _ _ _ h => h) (Or.inl ⟨by rfl, ?_⟩) (by assumption) ?_
          rotate_left
          · intro w hSw; (try dsimp only at hSw); go_simp; (try with_reducible rfl)
          simp only [Act.put, List.setIfInBounds_toArray, List.set_cons_zero, List.set_cons_succ]
          refine wpAnyH_take (i := 6) (oi := { dst := some 15, op := Op.nilCheck (Operand.tmp 14), type := 0, pos := "tokens.go:82", after := #[{ on := 5, ground := Ground.data }, { on := 4, ground := Ground.guard }], guard := some (4, true) }) (v := ?_) rfl (by kernel_rfl) (by kernel_rfl) (by kernel_rfl) (fun _ _ _ h => h) (Or.inl ⟨by rfl, ?_⟩) (by assumption) ?_
          rotate_left
          · intro w hSw; (try dsimp only at hSw); go_simp; (try with_reducible rfl)
          simp only [Act.put, List.setIfInBounds_toArray, List.set_cons_zero, List.set_cons_succ]
          refine wpAnyH_take (i := 7) (oi := { dst := some 16, op := Op.fieldAddr 53 (Operand.tmp 15) 0, type := 0, pos := "tokens.go:82", after := #[{ on := 6, ground := Ground.data }, { on := 4, ground := Ground.guard }], guard := some (4, true) }) (v := ?_) rfl (by kernel_rfl) (by kernel_rfl) (by kernel_rfl) (fun _ _ _ h => h) (Or.inl ⟨by rfl, ?_⟩) (by assumption) ?_
          rotate_left
          · intro w hSw; (try dsimp only at hSw); go_simp; (try with_reducible rfl)
          simp only [Act.put, List.setIfInBounds_toArray, List.set_cons_zero, List.set_cons_succ]
          refine wpAnyH_take (i := 8) (oi := { dst := some 17, op := Op.fieldAddr 44 (Operand.tmp 16) 1, type := 0, pos := "tokens.go:82", after := #[{ on := 7, ground := Ground.data }, { on := 4, ground := Ground.guard }], guard := some (4, true) }) (v := ?_) rfl (by kernel_rfl) (by kernel_rfl) (by kernel_rfl) (fun _ _ _ h => h) (Or.inl ⟨by rfl, ?_⟩) (by assumption) ?_
          rotate_left
          · intro w hSw; (try dsimp only at hSw); go_simp; (try with_reducible rfl)
          simp only [Act.put, List.setIfInBounds_toArray, List.set_cons_zero, List.set_cons_succ]
          refine wpAnyH_take (i := 9) (oi := { dst := some 18, op := Op.load 9 (Operand.tmp 17), type := 9, pos := "tokens.go:82", after := #[{ on := 8, ground := Ground.data }, { on := 4, ground := Ground.guard }], guard := some (4, true) }) (v := ?_) rfl (by kernel_rfl) (by kernel_rfl) (by kernel_rfl) (fun _ _ _ h => h) (Or.inl ⟨by rfl, ?_⟩) (by assumption) ?_
          rotate_left
          · intro w hSw; (try dsimp only at hSw); go_simp; (try with_reducible rfl)
          simp only [Act.put, List.setIfInBounds_toArray, List.set_cons_zero, List.set_cons_succ]
          refine wpAnyH_take (i := 10) (oi := { dst := some 19, op := Op.move (Operand.tmp 0), type := 75, pos := "tokens.go:82", after := #[{ on := 4, ground := Ground.guard }], guard := some (4, true) }) (v := ?_) rfl (by kernel_rfl) (by kernel_rfl) (by kernel_rfl) (fun _ _ _ h => h) (Or.inl ⟨by rfl, ?_⟩) (by assumption) ?_
          rotate_left
          · intro w hSw; (try dsimp only at hSw); go_simp; (try with_reducible rfl)
          simp only [Act.put, List.setIfInBounds_toArray, List.set_cons_zero, List.set_cons_succ]
          refine wpAnyH_take (i := 11) (oi := { dst := some 20, op := Op.nilCheck (Operand.tmp 19), type := 0, pos := "tokens.go:82", after := #[{ on := 10, ground := Ground.data }, { on := 4, ground := Ground.guard }], guard := some (4, true) }) (v := ?_) rfl (by kernel_rfl) (by kernel_rfl) (by kernel_rfl) (fun _ _ _ h => h) (Or.inl ⟨by rfl, ?_⟩) (by assumption) ?_
          rotate_left
          · intro w hSw; (try dsimp only at hSw); go_simp; (try with_reducible rfl)
          simp only [Act.put, List.setIfInBounds_toArray, List.set_cons_zero, List.set_cons_succ]
          refine wpAnyH_take (i := 12) (oi := { dst := some 21, op := Op.fieldAddr 53 (Operand.tmp 20) 0, type := 0, pos := "tokens.go:82", after := #[{ on := 11, ground := Ground.data }, { on := 4, ground := Ground.guard }], guard := some (4, true) }) (v := ?_) rfl (by kernel_rfl) (by kernel_rfl) (by kernel_rfl) (fun _ _ _ h => h) (Or.inl ⟨by rfl, ?_⟩) (by assumption) ?_
          rotate_left
          · intro w hSw; (try dsimp only at hSw); go_simp; (try with_reducible rfl)
          simp only [Act.put, List.setIfInBounds_toArray, List.set_cons_zero, List.set_cons_succ]
          refine wpAnyH_take (i := 13) (oi := { dst := some 22, op := Op.fieldAddr 44 (Operand.tmp 21) 2, type := 0, pos := "tokens.go:82", after := #[{ on := 12, ground := Ground.data }, { on := 4, ground := Ground.guard }], guard := some (4, true) }) (v := ?_) rfl (by kernel_rfl) (by kernel_rfl) (by kernel_rfl) (fun _ _ _ h => h) (Or.inl ⟨by rfl, ?_⟩) (by assumption) ?_
          rotate_left
          · intro w hSw; (try dsimp only at hSw); go_simp; (try with_reducible rfl)
          simp only [Act.put, List.setIfInBounds_toArray, List.set_cons_zero, List.set_cons_succ]
          refine wpAnyH_take (i := 14) (oi := { dst := some 23, op := Op.load 3 (Operand.tmp 22), type := 3, pos := "tokens.go:82", after := #[{ on := 13, ground := Ground.data }, { on := 4, ground := Ground.guard }], guard := some (4, true) }) (v := ?_) rfl (by kernel_rfl) (by kernel_rfl) (by kernel_rfl) (fun _ _ _ h => h) (Or.inl ⟨by rfl, ?_⟩) (by assumption) ?_
          rotate_left
          · intro w hSw; (try dsimp only at hSw); go_simp; (try with_reducible rfl)
          simp only [Act.put, List.setIfInBounds_toArray, List.set_cons_zero, List.set_cons_succ]
          refine wpAnyH_take (i := 15) (oi := { dst := some 24, op := Op.index 9 (Operand.tmp 18) (Operand.tmp 23), type := 5, pos := "tokens.go:82", after := #[{ on := 9, ground := Ground.data }, { on := 14, ground := Ground.data }, { on := 4, ground := Ground.guard }], guard := some (4, true) }) (v := ?_) rfl (by kernel_rfl) (by kernel_rfl) (by kernel_rfl) (fun _ _ _ h => h) (Or.inl ⟨by rfl, ?_⟩) (by assumption) ?_
          rotate_left
          · intro w hSw; (try dsimp only at hSw); go_simp; (try with_reducible rfl)
          simp only [Act.put, List.setIfInBounds_toArray, List.set_cons_zero, List.set_cons_succ]
          refine wpAnyH_ready (rs := [16]) (by kernel_rfl) (by simp) ?_
          refine AllReadyH.cons (o := { dst := some 25, op := Op.call { callee := Callee.value (Operand.func 52), args := #[Operand.tmp 24], argTypes := #[5] }, type := 4, pos := "tokens.go:82", after := #[{ on := 15, ground := Ground.data }, { on := 4, ground := Ground.chain }, { on := 4, ground := Ground.guard }], guard := some (4, true) }) rfl (fun KK hKK => ?_) AllReadyH.nil
          go_simp
          refine (unhide HME _).mono ?_
          rintro en w3 ⟨rfl, b3⟩
          have H3 := hide ((unhide H1).kept (grown_of_below b3))
          have G3 := hide ((unhide G1).trans (grown_but (grown_of_below b3) (some b)))
          clear b3
          have z1 := (unhide H3).c1
          have z2 := (unhide H3).c2
          refine hKK.out _ _ ⟨z1, z2⟩ (fun hHeld => ?_)
          clear hKK KK
          try simp only [Act.put, List.setIfInBounds_toArray, List.set_cons_zero, List.set_cons_succ]
          refine wpAnyH_take (i := 17) (oi := { dst := some 26, op := Op.unOp UnOp.not 4 (Operand.tmp 25), type := 4, pos := "tokens.go:82", after := #[{ on := 16, ground := Ground.data }, { on := 4, ground := Ground.guard }], guard := some (4, true) }) (v := ?_) rfl (by kernel_rfl) (by kernel_rfl) (by kernel_rfl) (fun _ _ _ h => h) (Or.inl ⟨by rfl, ?_⟩) (by assumption) ?_
          rotate_left
          · intro w hSw; (try dsimp only at hSw); go_simp; (try with_reducible rfl)
          simp only [Act.put, List.setIfInBounds_toArray, List.set_cons_zero, List.set_cons_succ]
          refine wpAnyH_take (i := 18) (oi := { dst := some 27, op := Op.pick (Operand.tmp 13) (Operand.tmp 26) (Operand.const (Value.bool false)), type := 4, pos := "tokens.go:82", after := #[{ on := 4, ground := Ground.data }, { on := 17, ground := Ground.data }], guard := none }) (v := ?_) rfl (by kernel_rfl) (by kernel_rfl) (by kernel_rfl) (fun _ _ _ h => h) (Or.inl ⟨by rfl, ?_⟩) (by assumption) ?_
          rotate_left
          · intro w hSw; (try dsimp only at hSw); go_simp; (try with_reducible rfl)
          simp only [Act.put, List.setIfInBounds_toArray, List.set_cons_zero, List.set_cons_succ]
          clear hHeld
          refine wpAnyH_done (by kernel_rfl) ?_ _
          have hq3 := (unhide H3).le
          clear y1 y2 z1 z2 c1 c2
          have y1 := (unhide H3).c1
          have y2 := (unhide H3).c2
          have y3 := (unhide H3).c3
          have hrq' : (r : Int) ≤ (q : Int) := by omega
          go_wp2_with fail
          go_quiet (fail)
          obtain ⟨w4, hw4⟩ : ∃ x, x = w3.drewN nq := ⟨_, rfl⟩
          rw [← hw4]
          have h4 : LexAt w4 b v u s q ps ks { st with rest := s.data.toList.drop q } := by
            refine LexX.ok ((unhide HX).move (st1 := { st with rest := s.data.toList.drop q }) (d1 := 0) (r1 := q) (by rw [hw4]; exact (unhide G3).trans (grown_but (grown_drewN w3 nq) _)) ?_ rfl rfl (fun _ => rfl) (unhide HX).zero (fun _ => rfl)) hf
            show Rdr w4 b 53 [v, u] s q 0 st.flt st.blm
            rw [hf, (unhide HX).zero hf, hw4]
            exact (unhide H3).drewN nq
          have g4 : GrownS w w4 (fun y => b ≤ y) := by rw [hw4]; exact grownS_own ((unhide G3).trans (grown_but (grown_drewN w3 nq) _))
          have H4 := hide h4
          have G4 := hide g4
          clear hw4 h4 g4 y1 y2 y3 H3 G3
          have hex : s.extract r q = BA ((s.data.toList.drop r).take (q - r)) := by
            have := extract_take s r (q - r)
            rwa [show r + (q - r) = q by omega] at this
          obtain ⟨word, hword⟩ : ∃ x, x = (s.data.toList.drop r).take (q - r) := ⟨_, rfl⟩
          rw [← hword] at hex
          rw [hex]
          have hwl : word.length ≤ 100000 := by rw [hword, List.length_take, List.length_drop, data_len]; omega
          have HWT : Hid (wordTok s.size st = if digsB word && ((s.data.toList.drop q).head? == some 60 || (s.data.toList.drop q).head? == some 62) then ({ st with rest := s.data.toList.drop q } : LS).add 4 word (r : Int) else (awaitL { st with rest := s.data.toList.drop q } word).add 1 word (r : Int)) := hide (by
            unfold wordTok
            rw [← unhide HRS, List.length_drop, data_len, unhide HTQ]
            simp only [List.length_drop, data_len]
            rw [show s.size - (s.size - r) = r by omega, show s.size - r - (s.size - q) = q - r by omega, ← hword])
          clear hword hex
          have HDG := hide (digits_any (BA word) w4 (by rw [BA_size]; exact hwl))
          rw [BA_list] at HDG
          go_wp2_with fail
          refine (unhide HDG).mono ?_
          rintro en w5 ⟨rfl, hw5⟩
          rw [show w5 = w4 from hw5]
          clear hw5 HDG
          have hl4 : ({ st with rest := s.data.toList.drop q } : LS).toks.length ≤ 100000 := hl
          have hsl : (awaitL { st with rest := s.data.toList.drop q } word).toks.length ≤ 100000 := by rw [(awaitL_flt _ _).2.2.2.1]; exact hl
          have hsf : (awaitL { st with rest := s.data.toList.drop q } word).flt = 0 := by rw [(awaitL_flt _ _).1]; exact hf
          have hm4 : w4.cell? ⟨1, 0, none⟩ = some (.int .i64 m) := by
            rw [World.cell?_of_block ((unhide G4).block 1 (by omega) (by omega))]
            exact unhide HM
          have HSL := hide hsl
          have HSF := hide hsf
          clear hsl hsf
          cases hD : digsB word with
          | false =>
            rw [hD] at HWT
            have HAW := hide (await_state w4 b v u s q ps ks { st with rest := s.data.toList.drop q } word m (unhide H4) hw hl4 hwl hm4 hb1)
            go_wp2_with fail
            refine (unhide HAW).mono ?_
            rintro en w6 ⟨rfl, u6, ks6, h6, g6⟩
            have HAD := hide (add_state w6 b v u6 s q ps ks6 _ 1 (r : Int) word h6 (unhide HSF) (unhide HSL))
            have G6 := hide g6
            clear h6 g6 HAW
            go_wp2_with fail
            refine (unhide HAD).mono ?_
            rintro en w7 ⟨rfl, v7, ps7, h7, g7⟩
            have H7 := hide h7
            have G7 := hide g7
            clear h7 g7 HAD
            go_wp2
            refine bodyPost_end (res0 rfl _ _) rfl ?_
            refine ⟨rfl, v7, u6, q, 0, ps7, ks6, ?_, (unhide G4).trans ((unhide G6).trans (unhide G7))⟩
            rw [unhide HWT]
            exact (unhide H7).x
          | true =>
            rw [hD] at HWT
            have hr4 := (unhide H4).rdr
            have HR4 := hide hr4
            clear hr4
            have HSE := hide (sees_any ⟨#[60]⟩ (unhide HR4))
            have hp60 : Lib.hasPrefix (s.data.toList.drop q) [60] = ((s.data.toList.drop q).head? == some 60) := hasP_head _ _
            have hp62 : Lib.hasPrefix (s.data.toList.drop q) [62] = ((s.data.toList.drop q).head? == some 62) := hasP_head _ _
            rw [show (⟨#[60]⟩ : ByteArray).data.toList = [60] from rfl, hp60] at HSE
            cases hA : ((s.data.toList.drop q).head? == some 60) with
            | true =>
              rw [hA] at HSE HWT
              clear hp60 hp62
              go_wp2_with fail
              refine (unhide HSE).mono ?_
              rintro en w6 ⟨rfl, k6, hw6⟩
              have h6 : LexAt w6 b v u s q ps ks { st with rest := s.data.toList.drop q } := by rw [hw6]; exact (unhide H4).below (below_drew _ _) (Nat.le_refl _)
              have G6 : Hid (GrownS w4 w6 (fun y => b ≤ y)) := hide (by rw [hw6]; exact grownS_of_below (below_drew _ _))
              have HAD := hide (add_state w6 b v u s q ps ks _ 4 (r : Int) word h6 hf hl4)
              clear hw6 h6 HSE
              go_wp2_with fail
              refine (unhide HAD).mono ?_
              rintro en w7 ⟨rfl, v7, ps7, h7, g7⟩
              have H7 := hide h7
              have G7 := hide g7
              clear h7 g7 HAD
              go_wp2
              refine bodyPost_ret (res0 rfl _ _) rfl ?_
              refine ⟨rfl, v7, u, q, 0, ps7, ks, ?_, (unhide G4).trans ((unhide G6).trans (unhide G7))⟩
              rw [unhide HWT]
              exact (unhide H7).x
            | false =>
              rw [hA] at HSE HWT
              go_wp2_with fail
              refine (unhide HSE).mono ?_
              rintro en w6 ⟨rfl, k6, hw6⟩
              have h6 : LexAt w6 b v u s q ps ks { st with rest := s.data.toList.drop q } := by rw [hw6]; exact (unhide H4).below (below_drew _ _) (Nat.le_refl _)
              have G6 : Hid (GrownS w4 w6 (fun y => b ≤ y)) := hide (by rw [hw6]; exact grownS_of_below (below_drew _ _))
              have HSG := hide (sees_any ⟨#[62]⟩ h6.rdr)
              rw [show (⟨#[62]⟩ : ByteArray).data.toList = [62] from rfl, hp62] at HSG
              have H6 := hide h6
              clear hw6 h6 HSE hp60 hp62
              cases hB : ((s.data.toList.drop q).head? == some 62) with
              | true =>
                rw [hB] at HSG HWT
                go_wp2_with fail
                refine (unhide HSG).mono ?_
                rintro en w8 ⟨rfl, k8, hw8⟩
                have h8 : LexAt w8 b v u s q ps ks { st with rest := s.data.toList.drop q } := by rw [hw8]; exact (unhide H6).below (below_drew _ _) (Nat.le_refl _)
                have G8 : Hid (GrownS w6 w8 (fun y => b ≤ y)) := hide (by rw [hw8]; exact grownS_of_below (below_drew _ _))
                have HAD := hide (add_state w8 b v u s q ps ks _ 4 (r : Int) word h8 hf hl4)
                clear hw8 h8 HSG
                go_wp2_with fail
                refine (unhide HAD).mono ?_
                rintro en w7 ⟨rfl, v7, ps7, h7, g7⟩
                have H7 := hide h7
                have G7 := hide g7
                clear h7 g7 HAD
                go_wp2
                refine bodyPost_ret (res0 rfl _ _) rfl ?_
                refine ⟨rfl, v7, u, q, 0, ps7, ks, ?_, (unhide G4).trans ((unhide G6).trans ((unhide G8).trans (unhide G7)))⟩
                rw [unhide HWT]
                exact (unhide H7).x
              | false =>
                rw [hB] at HSG HWT
                go_wp2_with fail
                refine (unhide HSG).mono ?_
                rintro en w8 ⟨rfl, k8, hw8⟩
                have h8 : LexAt w8 b v u s q ps ks { st with rest := s.data.toList.drop q } := by rw [hw8]; exact (unhide H6).below (below_drew _ _) (Nat.le_refl _)
                have G8 : Hid (GrownS w6 w8 (fun y => b ≤ y)) := hide (by rw [hw8]; exact grownS_of_below (below_drew _ _))
                have hm8 : w8.cell? ⟨1, 0, none⟩ = some (.int .i64 m) := by
                  rw [World.cell?_of_block ((unhide G8).block 1 (by have := (unhide G6).size; have := (unhide G4).size; omega) (by omega)), World.cell?_of_block ((unhide G6).block 1 (by have := (unhide G4).size; omega) (by omega))]
                  exact hm4
                have HAW := hide (await_state w8 b v u s q ps ks { st with rest := s.data.toList.drop q } word m h8 hw hl4 hwl hm8 hb1)
                clear hw8 h8 HSG hm8
                go_wp2_with fail
                refine (unhide HAW).mono ?_
                rintro en w9 ⟨rfl, u6, ks6, h9, g9⟩
                have HAD := hide (add_state w9 b v u6 s q ps ks6 _ 1 (r : Int) word h9 (unhide HSF) (unhide HSL))
                have G9 := hide g9
                clear h9 g9 HAW
                go_wp2_with fail
                refine (unhide HAD).mono ?_
                rintro en w7 ⟨rfl, v7, ps7, h7, g7⟩
                have H7 := hide h7
                have G7 := hide g7
                clear h7 g7 HAD
                go_wp2
                refine bodyPost_end (res0 rfl _ _) rfl ?_
                refine ⟨rfl, v7, u6, q, 0, ps7, ks6, ?_, (unhide G4).trans ((unhide G6).trans ((unhide G8).trans ((unhide G9).trans (unhide G7))))⟩
                rw [unhide HWT]
                exact (unhide H7).x
        · have HME : Hid (∀ W, Calls Tryd.prog 52 #[.int .u8 (s[q].toNat : Int)] W fun e w' => e = .returned (.bool false) ∧ Below W.heap.size W w') := hide (fun W => by
            have := meta_any (s[q].toNat : Int) W (byte_range _).1 (byte_range _).2
            rw [hme] at this
            exact this)
          go_wp2_with fail
          refine wp_region_held_drew (S := fun w' => w'.cell? ⟨b, 1, none⟩ = some (.string s) ∧ w'.cell? ⟨b, 2, none⟩ = some (.int .i64 (q : Int))) (by kernel_rfl) ⟨c1, c2⟩ (fun hHeld => ?_)
          refine wpAnyH_take (i := 0) (oi := { dst := some 9, op := Op.move (Operand.tmp 0), type := 75, pos := "tokens.go:82", after := #[], guard := none }) (v := ?_) rfl (by kernel_rfl) (by kernel_rfl) (by kernel_rfl) (fun _ _ _ h => h) (Or.inl ⟨by rfl, ?_⟩) (by assumption) ?_
          rotate_left
          · intro w hSw; (try dsimp only at hSw); go_simp; (try with_reducible rfl)
          simp only [Act.put, List.setIfInBounds_toArray, List.set_cons_zero, List.set_cons_succ]
          refine wpAnyH_take (i := 1) (oi := { dst := some 10, op := Op.nilCheck (Operand.tmp 9), type := 0, pos := "tokens.go:82", after := #[{ on := 0, ground := Ground.data }], guard := none }) (v := ?_) rfl (by kernel_rfl) (by kernel_rfl) (by kernel_rfl) (fun _ _ _ h => h) (Or.inl ⟨by rfl, ?_⟩) (by assumption) ?_
          rotate_left
          · intro w hSw; (try dsimp only at hSw); go_simp; (try with_reducible rfl)
          simp only [Act.put, List.setIfInBounds_toArray, List.set_cons_zero, List.set_cons_succ]
          refine wpAnyH_take (i := 2) (oi := { dst := some 11, op := Op.fieldAddr 53 (Operand.tmp 10) 0, type := 0, pos := "tokens.go:82", after := #[{ on := 1, ground := Ground.data }], guard := none }) (v := ?_) rfl (by kernel_rfl) (by kernel_rfl) (by kernel_rfl) (fun _ _ _ h => h) (Or.inl ⟨by rfl, ?_⟩) (by assumption) ?_
          rotate_left
          · intro w hSw; (try dsimp only at hSw); go_simp; (try with_reducible rfl)
          simp only [Act.put, List.setIfInBounds_toArray, List.set_cons_zero, List.set_cons_succ]
          refine wpAnyH_ready (rs := [3]) (by kernel_rfl) (by simp) ?_
          refine AllReadyH.cons (o := { dst := some 12, op := Op.call { callee := Callee.value (Operand.func 19), args := #[Operand.tmp 11], argTypes := #[44] }, type := 4, pos := "tokens.go:82", after := #[{ on := 2, ground := Ground.data }], guard := none }) rfl (fun KK hKK => ?_) AllReadyH.nil
          go_simp
          refine (unhide HMO).mono ?_
          rintro en w1 ⟨rfl, k1, hw1⟩
          have H1 : Hid (Rdr w1 b 53 [v, u] s q 0 0 0) := hide (by rw [hw1]; exact ((unhide HR).drewN 1).drewN k1)
          have G1 : Hid (w.grownBy w1 (some b)) := hide (by rw [hw1]; exact (unhide HG).trans (grown_but ((grown_drewN wr 1).trans (grown_drewN _ k1)) (some b)))
          clear hw1
          have y1 := (unhide H1).c1
          have y2 := (unhide H1).c2
          refine hKK.out _ _ ⟨y1, y2⟩ (fun hHeld => ?_)
          clear hKK KK
          try simp only [Act.put, List.setIfInBounds_toArray, List.set_cons_zero, List.set_cons_succ]
          refine wpAnyH_take (i := 4) (oi := { dst := some 13, op := Op.move (Operand.tmp 12), type := 4, pos := "tokens.go:82", after := #[{ on := 3, ground := Ground.data }, { on := 3, ground := Ground.chain }], guard := none }) (v := ?_) rfl (by kernel_rfl) (by kernel_rfl) (by kernel_rfl) (fun _ _ _ h => h) (Or.inl ⟨by rfl, ?_⟩) (by assumption) ?_
          rotate_left
          · intro w hSw; (try dsimp only at hSw); go_simp; (try with_reducible rfl)
          simp only [Act.put, List.setIfInBounds_toArray, List.set_cons_zero, List.set_cons_succ]
          refine wpAnyH_take (i := 5) (oi := { dst := some 14, op := Op.move (Operand.tmp 0), type := 75, pos := "tokens.go:82", after := #[{ on := 4, ground := Ground.guard }], guard := some (4, true) }) (v := ?_) rfl (by kernel_rfl) (by kernel_rfl) (by kernel_rfl) (fun _ _ _ h => h) (Or.inl ⟨by rfl, ?_⟩) (by assumption) ?_
          rotate_left
          · intro w hSw; (try dsimp only at hSw); go_simp; (try with_reducible rfl)
          simp only [Act.put, List.setIfInBounds_toArray, List.set_cons_zero, List.set_cons_succ]
          refine wpAnyH_take (i := 6) (oi := { dst := some 15, op := Op.nilCheck (Operand.tmp 14), type := 0, pos := "tokens.go:82", after := #[{ on := 5, ground := Ground.data }, { on := 4, ground := Ground.guard }], guard := some (4, true) }) (v := ?_) rfl (by kernel_rfl) (by kernel_rfl) (by kernel_rfl) (fun _ _ _ h => h) (Or.inl ⟨by rfl, ?_⟩) (by assumption) ?_
          rotate_left
          · intro w hSw; (try dsimp only at hSw); go_simp; (try with_reducible rfl)
          simp only [Act.put, List.setIfInBounds_toArray, List.set_cons_zero, List.set_cons_succ]
          refine wpAnyH_take (i := 7) (oi := { dst := some 16, op := Op.fieldAddr 53 (Operand.tmp 15) 0, type := 0, pos := "tokens.go:82", after := #[{ on := 6, ground := Ground.data }, { on := 4, ground := Ground.guard }], guard := some (4, true) }) (v := ?_) rfl (by kernel_rfl) (by kernel_rfl) (by kernel_rfl) (fun _ _ _ h => h) (Or.inl ⟨by rfl, ?_⟩) (by assumption) ?_
          rotate_left
          · intro w hSw; (try dsimp only at hSw); go_simp; (try with_reducible rfl)
          simp only [Act.put, List.setIfInBounds_toArray, List.set_cons_zero, List.set_cons_succ]
          refine wpAnyH_take (i := 8) (oi := { dst := some 17, op := Op.fieldAddr 44 (Operand.tmp 16) 1, type := 0, pos := "tokens.go:82", after := #[{ on := 7, ground := Ground.data }, { on := 4, ground := Ground.guard }], guard := some (4, true) }) (v := ?_) rfl (by kernel_rfl) (by kernel_rfl) (by kernel_rfl) (fun _ _ _ h => h) (Or.inl ⟨by rfl, ?_⟩) (by assumption) ?_
          rotate_left
          · intro w hSw; (try dsimp only at hSw); go_simp; (try with_reducible rfl)
          simp only [Act.put, List.setIfInBounds_toArray, List.set_cons_zero, List.set_cons_succ]
          refine wpAnyH_take (i := 9) (oi := { dst := some 18, op := Op.load 9 (Operand.tmp 17), type := 9, pos := "tokens.go:82", after := #[{ on := 8, ground := Ground.data }, { on := 4, ground := Ground.guard }], guard := some (4, true) }) (v := ?_) rfl (by kernel_rfl) (by kernel_rfl) (by kernel_rfl) (fun _ _ _ h => h) (Or.inl ⟨by rfl, ?_⟩) (by assumption) ?_
          rotate_left
          · intro w hSw; (try dsimp only at hSw); go_simp; (try with_reducible rfl)
          simp only [Act.put, List.setIfInBounds_toArray, List.set_cons_zero, List.set_cons_succ]
          refine wpAnyH_take (i := 10) (oi := { dst := some 19, op := Op.move (Operand.tmp 0), type := 75, pos := "tokens.go:82", after := #[{ on := 4, ground := Ground.guard }], guard := some (4, true) }) (v := ?_) rfl (by kernel_rfl) (by kernel_rfl) (by kernel_rfl) (fun _ _ _ h => h) (Or.inl ⟨by rfl, ?_⟩) (by assumption) ?_
          rotate_left
          · intro w hSw; (try dsimp only at hSw); go_simp; (try with_reducible rfl)
          simp only [Act.put, List.setIfInBounds_toArray, List.set_cons_zero, List.set_cons_succ]
          refine wpAnyH_take (i := 11) (oi := { dst := some 20, op := Op.nilCheck (Operand.tmp 19), type := 0, pos := "tokens.go:82", after := #[{ on := 10, ground := Ground.data }, { on := 4, ground := Ground.guard }], guard := some (4, true) }) (v := ?_) rfl (by kernel_rfl) (by kernel_rfl) (by kernel_rfl) (fun _ _ _ h => h) (Or.inl ⟨by rfl, ?_⟩) (by assumption) ?_
          rotate_left
          · intro w hSw; (try dsimp only at hSw); go_simp; (try with_reducible rfl)
          simp only [Act.put, List.setIfInBounds_toArray, List.set_cons_zero, List.set_cons_succ]
          refine wpAnyH_take (i := 12) (oi := { dst := some 21, op := Op.fieldAddr 53 (Operand.tmp 20) 0, type := 0, pos := "tokens.go:82", after := #[{ on := 11, ground := Ground.data }, { on := 4, ground := Ground.guard }], guard := some (4, true) }) (v := ?_) rfl (by kernel_rfl) (by kernel_rfl) (by kernel_rfl) (fun _ _ _ h => h) (Or.inl ⟨by rfl, ?_⟩) (by assumption) ?_
          rotate_left
          · intro w hSw; (try dsimp only at hSw); go_simp; (try with_reducible rfl)
          simp only [Act.put, List.setIfInBounds_toArray, List.set_cons_zero, List.set_cons_succ]
          refine wpAnyH_take (i := 13) (oi := { dst := some 22, op := Op.fieldAddr 44 (Operand.tmp 21) 2, type := 0, pos := "tokens.go:82", after := #[{ on := 12, ground := Ground.data }, { on := 4, ground := Ground.guard }], guard := some (4, true) }) (v := ?_) rfl (by kernel_rfl) (by kernel_rfl) (by kernel_rfl) (fun _ _ _ h => h) (Or.inl ⟨by rfl, ?_⟩) (by assumption) ?_
          rotate_left
          · intro w hSw; (try dsimp only at hSw); go_simp; (try with_reducible rfl)
          simp only [Act.put, List.setIfInBounds_toArray, List.set_cons_zero, List.set_cons_succ]
          refine wpAnyH_take (i := 14) (oi := { dst := some 23, op := Op.load 3 (Operand.tmp 22), type := 3, pos := "tokens.go:82", after := #[{ on := 13, ground := Ground.data }, { on := 4, ground := Ground.guard }], guard := some (4, true) }) (v := ?_) rfl (by kernel_rfl) (by kernel_rfl) (by kernel_rfl) (fun _ _ _ h => h) (Or.inl ⟨by rfl, ?_⟩) (by assumption) ?_
          rotate_left
          · intro w hSw; (try dsimp only at hSw); go_simp; (try with_reducible rfl)
          simp only [Act.put, List.setIfInBounds_toArray, List.set_cons_zero, List.set_cons_succ]
          refine wpAnyH_take (i := 15) (oi := { dst := some 24, op := Op.index 9 (Operand.tmp 18) (Operand.tmp 23), type := 5, pos := "tokens.go:82", after := #[{ on := 9, ground := Ground.data }, { on := 14, ground := Ground.data }, { on := 4, ground := Ground.guard }], guard := some (4, true) }) (v := ?_) rfl (by kernel_rfl) (by kernel_rfl) (by kernel_rfl) (fun _ _ _ h => h) (Or.inl ⟨by rfl, ?_⟩) (by assumption) ?_
          rotate_left
          · intro w hSw; (try dsimp only at hSw); go_simp; (try with_reducible rfl)
          simp only [Act.put, List.setIfInBounds_toArray, List.set_cons_zero, List.set_cons_succ]
          refine wpAnyH_ready (rs := [16]) (by kernel_rfl) (by simp) ?_
          refine AllReadyH.cons (o := { dst := some 25, op := Op.call { callee := Callee.value (Operand.func 52), args := #[Operand.tmp 24], argTypes := #[5] }, type := 4, pos := "tokens.go:82", after := #[{ on := 15, ground := Ground.data }, { on := 4, ground := Ground.chain }, { on := 4, ground := Ground.guard }], guard := some (4, true) }) rfl (fun KK hKK => ?_) AllReadyH.nil
          go_simp
          refine (unhide HME _).mono ?_
          rintro en w3 ⟨rfl, b3⟩
          have H3 := hide ((unhide H1).kept (grown_of_below b3))
          have G3 := hide ((unhide G1).trans (grown_but (grown_of_below b3) (some b)))
          clear b3
          have z1 := (unhide H3).c1
          have z2 := (unhide H3).c2
          refine hKK.out _ _ ⟨z1, z2⟩ (fun hHeld => ?_)
          clear hKK KK
          try simp only [Act.put, List.setIfInBounds_toArray, List.set_cons_zero, List.set_cons_succ]
          refine wpAnyH_take (i := 17) (oi := { dst := some 26, op := Op.unOp UnOp.not 4 (Operand.tmp 25), type := 4, pos := "tokens.go:82", after := #[{ on := 16, ground := Ground.data }, { on := 4, ground := Ground.guard }], guard := some (4, true) }) (v := ?_) rfl (by kernel_rfl) (by kernel_rfl) (by kernel_rfl) (fun _ _ _ h => h) (Or.inl ⟨by rfl, ?_⟩) (by assumption) ?_
          rotate_left
          · intro w hSw; (try dsimp only at hSw); go_simp; (try with_reducible rfl)
          simp only [Act.put, List.setIfInBounds_toArray, List.set_cons_zero, List.set_cons_succ]
          refine wpAnyH_take (i := 18) (oi := { dst := some 27, op := Op.pick (Operand.tmp 13) (Operand.tmp 26) (Operand.const (Value.bool false)), type := 4, pos := "tokens.go:82", after := #[{ on := 4, ground := Ground.data }, { on := 17, ground := Ground.data }], guard := none }) (v := ?_) rfl (by kernel_rfl) (by kernel_rfl) (by kernel_rfl) (fun _ _ _ h => h) (Or.inl ⟨by rfl, ?_⟩) (by assumption) ?_
          rotate_left
          · intro w hSw; (try dsimp only at hSw); go_simp; (try with_reducible rfl)
          simp only [Act.put, List.setIfInBounds_toArray, List.set_cons_zero, List.set_cons_succ]
          clear hHeld
          refine wpAnyH_done (by kernel_rfl) ?_ _
          have HTH := hide (thing_all s.size w3 b 53 [v, u] s q 0 0 (3 * (s.size - q) + 3) (unhide H3) hq (by omega) (by decide) (Nat.le_refl _) 0 rfl)
          clear y1 y2 z1 z2 c1 c2
          go_wp2_with fail
          refine (unhide HTH).mono ?_
          rintro en w5 ⟨rfl, g5, h5⟩
          have G5 := hide ((unhide G3).trans g5)
          have HTS := unhide HTT
          rw [drop_at hq, wordL_cons, if_neg (by rw [hme]; decide)] at HTS
          have hln : (s.data.toList.drop (q + 1)).length + 1 = s.size - q := by rw [List.length_drop, data_len]; omega
          rw [hln, ← drop_at hq] at HTS
          clear g5 HTH
          cases hth : thg (3 * (s.size - q) + 3) (s.data.toList.drop q) 0 0 with
          | ok l5 =>
            rw [hth] at h5 HTS
            obtain ⟨q5, hq5, hr5⟩ := h5
            have hlt5 : q < q5 := by
              have h1 := hth
              rw [drop_at hq] at h1
              have h2 := thg_lt h1
              rw [← hq5, List.length_drop, List.length_drop, data_len] at h2
              have := hr5.le
              omega
            have HTS2 : Hid (wordL F (s.data.toList.drop q5) = T) := hide (by rw [hq5]; exact HTS)
            have HR5 := hide hr5
            clear HTS hth hq5 hr5
            go_wp2
            go_roundw
            case rel => exact ⟨q5, 0, 0, 0, hide ⟨unhide HR5, unhide G5, by omega, .inl ⟨rfl, rfl, rfl, F, by omega, unhide HTS2⟩⟩⟩
            case measure =>
              rw [(unhide HR5).msr0, unhide HMS]
              have := (unhide HR5).le
              omega
          | err e5 m5 =>
            rw [hth] at h5 HTS
            obtain ⟨q5, d5, he5, hr5⟩ := h5
            have HTS2 : Hid (T = .err e5 m5) := hide HTS.symm
            have HR5 := hide hr5
            have HE5 := hide he5
            clear HTS hth hr5 he5
            go_wp2
            go_roundw
            case rel => exact ⟨q5, d5, e5, _, hide ⟨unhide HR5, unhide G5, fun e => absurd e (unhide HE5), .inr ⟨unhide HE5, m5, unhide HTS2, rfl⟩⟩⟩
            case measure =>
              rw [(unhide HR5).msr1 (unhide HE5), unhide HMS]
              omega
      · have hmb : moreB s q 0 = false := by unfold moreB; rw [decide_eq_false hq]; rfl
        rw [hmb] at hmo
        have HMO := hide hmo
        have HTQ : Hid (wordL (s.size - r + 1) (s.data.toList.drop r) = .ok (s.data.toList.drop q)) := hide (by
          rw [unhide HTR, ← unhide HTT, drop_nil (by omega), wordL_nil])
        clear hmo hmb HMS
        go_wp2_with fail
        refine wp_region_held_drew (S := fun w' => w'.cell? ⟨b, 1, none⟩ = some (.string s) ∧ w'.cell? ⟨b, 2, none⟩ = some (.int .i64 (q : Int))) (by kernel_rfl) ⟨c1, c2⟩ (fun hHeld => ?_)
        refine wpAnyH_take (i := 0) (oi := { dst := some 9, op := Op.move (Operand.tmp 0), type := 75, pos := "tokens.go:82", after := #[], guard := none }) (v := ?_) rfl (by kernel_rfl) (by kernel_rfl) (by kernel_rfl) (fun _ _ _ h => h) (Or.inl ⟨by rfl, ?_⟩) (by assumption) ?_
        rotate_left
        · intro w hSw; (try dsimp only at hSw); go_simp; (try with_reducible rfl)
        simp only [Act.put, List.setIfInBounds_toArray, List.set_cons_zero, List.set_cons_succ]
        refine wpAnyH_take (i := 1) (oi := { dst := some 10, op := Op.nilCheck (Operand.tmp 9), type := 0, pos := "tokens.go:82", after := #[{ on := 0, ground := Ground.data }], guard := none }) (v := ?_) rfl (by kernel_rfl) (by kernel_rfl) (by kernel_rfl) (fun _ _ _ h => h) (Or.inl ⟨by rfl, ?_⟩) (by assumption) ?_
        rotate_left
        · intro w hSw; (try dsimp only at hSw); go_simp; (try with_reducible rfl)
        simp only [Act.put, List.setIfInBounds_toArray, List.set_cons_zero, List.set_cons_succ]
        refine wpAnyH_take (i := 2) (oi := { dst := some 11, op := Op.fieldAddr 53 (Operand.tmp 10) 0, type := 0, pos := "tokens.go:82", after := #[{ on := 1, ground := Ground.data }], guard := none }) (v := ?_) rfl (by kernel_rfl) (by kernel_rfl) (by kernel_rfl) (fun _ _ _ h => h) (Or.inl ⟨by rfl, ?_⟩) (by assumption) ?_
        rotate_left
        · intro w hSw; (try dsimp only at hSw); go_simp; (try with_reducible rfl)
        simp only [Act.put, List.setIfInBounds_toArray, List.set_cons_zero, List.set_cons_succ]
        refine wpAnyH_ready (rs := [3]) (by kernel_rfl) (by simp) ?_
        refine AllReadyH.cons (o := { dst := some 12, op := Op.call { callee := Callee.value (Operand.func 19), args := #[Operand.tmp 11], argTypes := #[44] }, type := 4, pos := "tokens.go:82", after := #[{ on := 2, ground := Ground.data }], guard := none }) rfl (fun KK hKK => ?_) AllReadyH.nil
        go_simp
        refine (unhide HMO).mono ?_
        rintro en w1 ⟨rfl, k1, hw1⟩
        have H1 : Hid (Rdr w1 b 53 [v, u] s q 0 0 0) := hide (by rw [hw1]; exact ((unhide HR).drewN 1).drewN k1)
        have G1 : Hid (w.grownBy w1 (some b)) := hide (by rw [hw1]; exact (unhide HG).trans (grown_but ((grown_drewN wr 1).trans (grown_drewN _ k1)) (some b)))
        clear hw1
        have y1 := (unhide H1).c1
        have y2 := (unhide H1).c2
        refine hKK.out _ _ ⟨y1, y2⟩ (fun hHeld => ?_)
        clear hKK KK
        try simp only [Act.put, List.setIfInBounds_toArray, List.set_cons_zero, List.set_cons_succ]
        refine wpAnyH_take (i := 4) (oi := { dst := some 13, op := Op.move (Operand.tmp 12), type := 4, pos := "tokens.go:82", after := #[{ on := 3, ground := Ground.data }, { on := 3, ground := Ground.chain }], guard := none }) (v := ?_) rfl (by kernel_rfl) (by kernel_rfl) (by kernel_rfl) (fun _ _ _ h => h) (Or.inl ⟨by rfl, ?_⟩) (by assumption) ?_
        rotate_left
        · intro w hSw; (try dsimp only at hSw); go_simp; (try with_reducible rfl)
        simp only [Act.put, List.setIfInBounds_toArray, List.set_cons_zero, List.set_cons_succ]
        refine wpAnyH_take (i := 5) (oi := { dst := some 14, op := Op.move (Operand.tmp 0), type := 75, pos := "tokens.go:82", after := #[{ on := 4, ground := Ground.guard }], guard := some (4, true) }) (v := undef) rfl (by kernel_rfl) (by kernel_rfl) (by kernel_rfl) (fun _ _ _ h => h) (Or.inr ⟨by rfl, rfl⟩) (by assumption) ?_
        simp only [Act.put, List.setIfInBounds_toArray, List.set_cons_zero, List.set_cons_succ]
        refine wpAnyH_take (i := 6) (oi := { dst := some 15, op := Op.nilCheck (Operand.tmp 14), type := 0, pos := "tokens.go:82", after := #[{ on := 5, ground := Ground.data }, { on := 4, ground := Ground.guard }], guard := some (4, true) }) (v := undef) rfl (by kernel_rfl) (by kernel_rfl) (by kernel_rfl) (fun _ _ _ h => h) (Or.inr ⟨by rfl, rfl⟩) (by assumption) ?_
        simp only [Act.put, List.setIfInBounds_toArray, List.set_cons_zero, List.set_cons_succ]
        refine wpAnyH_take (i := 7) (oi := { dst := some 16, op := Op.fieldAddr 53 (Operand.tmp 15) 0, type := 0, pos := "tokens.go:82", after := #[{ on := 6, ground := Ground.data }, { on := 4, ground := Ground.guard }], guard := some (4, true) }) (v := undef) rfl (by kernel_rfl) (by kernel_rfl) (by kernel_rfl) (fun _ _ _ h => h) (Or.inr ⟨by rfl, rfl⟩) (by assumption) ?_
        simp only [Act.put, List.setIfInBounds_toArray, List.set_cons_zero, List.set_cons_succ]
        refine wpAnyH_take (i := 8) (oi := { dst := some 17, op := Op.fieldAddr 44 (Operand.tmp 16) 1, type := 0, pos := "tokens.go:82", after := #[{ on := 7, ground := Ground.data }, { on := 4, ground := Ground.guard }], guard := some (4, true) }) (v := undef) rfl (by kernel_rfl) (by kernel_rfl) (by kernel_rfl) (fun _ _ _ h => h) (Or.inr ⟨by rfl, rfl⟩) (by assumption) ?_
        simp only [Act.put, List.setIfInBounds_toArray, List.set_cons_zero, List.set_cons_succ]
        refine wpAnyH_take (i := 9) (oi := { dst := some 18, op := Op.load 9 (Operand.tmp 17), type := 9, pos := "tokens.go:82", after := #[{ on := 8, ground := Ground.data }, { on := 4, ground := Ground.guard }], guard := some (4, true) }) (v := undef) rfl (by kernel_rfl) (by kernel_rfl) (by kernel_rfl) (fun _ _ _ h => h) (Or.inr ⟨by rfl, rfl⟩) (by assumption) ?_
        simp only [Act.put, List.setIfInBounds_toArray, List.set_cons_zero, List.set_cons_succ]
        refine wpAnyH_take (i := 10) (oi := { dst := some 19, op := Op.move (Operand.tmp 0), type := 75, pos := "tokens.go:82", after := #[{ on := 4, ground := Ground.guard }], guard := some (4, true) }) (v := undef) rfl (by kernel_rfl) (by kernel_rfl) (by kernel_rfl) (fun _ _ _ h => h) (Or.inr ⟨by rfl, rfl⟩) (by assumption) ?_
        simp only [Act.put, List.setIfInBounds_toArray, List.set_cons_zero, List.set_cons_succ]
        refine wpAnyH_take (i := 11) (oi := { dst := some 20, op := Op.nilCheck (Operand.tmp 19), type := 0, pos := "tokens.go:82", after := #[{ on := 10, ground := Ground.data }, { on := 4, ground := Ground.guard }], guard := some (4, true) }) (v := undef) rfl (by kernel_rfl) (by kernel_rfl) (by kernel_rfl) (fun _ _ _ h => h) (Or.inr ⟨by rfl, rfl⟩) (by assumption) ?_
        simp only [Act.put, List.setIfInBounds_toArray, List.set_cons_zero, List.set_cons_succ]
        refine wpAnyH_take (i := 12) (oi := { dst := some 21, op := Op.fieldAddr 53 (Operand.tmp 20) 0, type := 0, pos := "tokens.go:82", after := #[{ on := 11, ground := Ground.data }, { on := 4, ground := Ground.guard }], guard := some (4, true) }) (v := undef) rfl (by kernel_rfl) (by kernel_rfl) (by kernel_rfl) (fun _ _ _ h => h) (Or.inr ⟨by rfl, rfl⟩) (by assumption) ?_
        simp only [Act.put, List.setIfInBounds_toArray, List.set_cons_zero, List.set_cons_succ]
        refine wpAnyH_take (i := 13) (oi := { dst := some 22, op := Op.fieldAddr 44 (Operand.tmp 21) 2, type := 0, pos := "tokens.go:82", after := #[{ on := 12, ground := Ground.data }, { on := 4, ground := Ground.guard }], guard := some (4, true) }) (v := undef) rfl (by kernel_rfl) (by kernel_rfl) (by kernel_rfl) (fun _ _ _ h => h) (Or.inr ⟨by rfl, rfl⟩) (by assumption) ?_
        simp only [Act.put, List.setIfInBounds_toArray, List.set_cons_zero, List.set_cons_succ]
        refine wpAnyH_take (i := 14) (oi := { dst := some 23, op := Op.load 3 (Operand.tmp 22), type := 3, pos := "tokens.go:82", after := #[{ on := 13, ground := Ground.data }, { on := 4, ground := Ground.guard }], guard := some (4, true) }) (v := undef) rfl (by kernel_rfl) (by kernel_rfl) (by kernel_rfl) (fun _ _ _ h => h) (Or.inr ⟨by rfl, rfl⟩) (by assumption) ?_
        simp only [Act.put, List.setIfInBounds_toArray, List.set_cons_zero, List.set_cons_succ]
        refine wpAnyH_take (i := 15) (oi := { dst := some 24, op := Op.index 9 (Operand.tmp 18) (Operand.tmp 23), type := 5, pos := "tokens.go:82", after := #[{ on := 9, ground := Ground.data }, { on := 14, ground := Ground.data }, { on := 4, ground := Ground.guard }], guard := some (4, true) }) (v := undef) rfl (by kernel_rfl) (by kernel_rfl) (by kernel_rfl) (fun _ _ _ h => h) (Or.inr ⟨by rfl, rfl⟩) (by assumption) ?_
        simp only [Act.put, List.setIfInBounds_toArray, List.set_cons_zero, List.set_cons_succ]
        refine wpAnyH_take (i := 16) (oi := { dst := some 25, op := Op.call { callee := Callee.value (Operand.func 52), args := #[Operand.tmp 24], argTypes := #[5] }, type := 4, pos := "tokens.go:82", after := #[{ on := 15, ground := Ground.data }, { on := 4, ground := Ground.chain }, { on := 4, ground := Ground.guard }], guard := some (4, true) }) (v := undef) rfl (by kernel_rfl) (by kernel_rfl) (by kernel_rfl) (fun _ _ _ h => h) (Or.inr ⟨by rfl, rfl⟩) (by assumption) ?_
        simp only [Act.put, List.setIfInBounds_toArray, List.set_cons_zero, List.set_cons_succ]
        refine wpAnyH_take (i := 17) (oi := { dst := some 26, op := Op.unOp UnOp.not 4 (Operand.tmp 25), type := 4, pos := "tokens.go:82", after := #[{ on := 16, ground := Ground.data }, { on := 4, ground := Ground.guard }], guard := some (4, true) }) (v := undef) rfl (by kernel_rfl) (by kernel_rfl) (by kernel_rfl) (fun _ _ _ h => h) (Or.inr ⟨by rfl, rfl⟩) (by assumption) ?_
        simp only [Act.put, List.setIfInBounds_toArray, List.set_cons_zero, List.set_cons_succ]
        refine wpAnyH_take (i := 18) (oi := { dst := some 27, op := Op.pick (Operand.tmp 13) (Operand.tmp 26) (Operand.const (Value.bool false)), type := 4, pos := "tokens.go:82", after := #[{ on := 4, ground := Ground.data }, { on := 17, ground := Ground.data }], guard := none }) (v := ?_) rfl (by kernel_rfl) (by kernel_rfl) (by kernel_rfl) (fun _ _ _ h => h) (Or.inl ⟨by rfl, ?_⟩) (by assumption) ?_
        rotate_left
        · intro w hSw; (try dsimp only at hSw); go_simp; (try with_reducible rfl)
        simp only [Act.put, List.setIfInBounds_toArray, List.set_cons_zero, List.set_cons_succ]
        clear hHeld
        refine wpAnyH_done (by kernel_rfl) ?_ _
        have H3 := H1
        have G3 := G1
        obtain ⟨w3, hw3⟩ : ∃ x, x = w1 := ⟨_, rfl⟩
        rw [← hw3] at H3 G3 y1 y2
        rw [← hw3]
        have z1 := y1
        have z2 := y2
        clear H1 G1 hw3
        have hq3 := (unhide H3).le
        clear y1 y2 z1 z2 c1 c2
        have y1 := (unhide H3).c1
        have y2 := (unhide H3).c2
        have y3 := (unhide H3).c3
        have hrq' : (r : Int) ≤ (q : Int) := by omega
        go_wp2_with fail
        go_quiet (fail)
        obtain ⟨w4, hw4⟩ : ∃ x, x = w3.drewN nq := ⟨_, rfl⟩
        rw [← hw4]
        have h4 : LexAt w4 b v u s q ps ks { st with rest := s.data.toList.drop q } := by
          refine LexX.ok ((unhide HX).move (st1 := { st with rest := s.data.toList.drop q }) (d1 := 0) (r1 := q) (by rw [hw4]; exact (unhide G3).trans (grown_but (grown_drewN w3 nq) _)) ?_ rfl rfl (fun _ => rfl) (unhide HX).zero (fun _ => rfl)) hf
          show Rdr w4 b 53 [v, u] s q 0 st.flt st.blm
          rw [hf, (unhide HX).zero hf, hw4]
          exact (unhide H3).drewN nq
        have g4 : GrownS w w4 (fun y => b ≤ y) := by rw [hw4]; exact grownS_own ((unhide G3).trans (grown_but (grown_drewN w3 nq) _))
        have H4 := hide h4
        have G4 := hide g4
        clear hw4 h4 g4 y1 y2 y3 H3 G3
        have hex : s.extract r q = BA ((s.data.toList.drop r).take (q - r)) := by
          have := extract_take s r (q - r)
          rwa [show r + (q - r) = q by omega] at this
        obtain ⟨word, hword⟩ : ∃ x, x = (s.data.toList.drop r).take (q - r) := ⟨_, rfl⟩
        rw [← hword] at hex
        rw [hex]
        have hwl : word.length ≤ 100000 := by rw [hword, List.length_take, List.length_drop, data_len]; omega
        have HWT : Hid (wordTok s.size st = if digsB word && ((s.data.toList.drop q).head? == some 60 || (s.data.toList.drop q).head? == some 62) then ({ st with rest := s.data.toList.drop q } : LS).add 4 word (r : Int) else (awaitL { st with rest := s.data.toList.drop q } word).add 1 word (r : Int)) := hide (by
          unfold wordTok
          rw [← unhide HRS, List.length_drop, data_len, unhide HTQ]
          simp only [List.length_drop, data_len]
          rw [show s.size - (s.size - r) = r by omega, show s.size - r - (s.size - q) = q - r by omega, ← hword])
        clear hword hex
        have HDG := hide (digits_any (BA word) w4 (by rw [BA_size]; exact hwl))
        rw [BA_list] at HDG
        go_wp2_with fail
        refine (unhide HDG).mono ?_
        rintro en w5 ⟨rfl, hw5⟩
        rw [show w5 = w4 from hw5]
        clear hw5 HDG
        have hl4 : ({ st with rest := s.data.toList.drop q } : LS).toks.length ≤ 100000 := hl
        have hsl : (awaitL { st with rest := s.data.toList.drop q } word).toks.length ≤ 100000 := by rw [(awaitL_flt _ _).2.2.2.1]; exact hl
        have hsf : (awaitL { st with rest := s.data.toList.drop q } word).flt = 0 := by rw [(awaitL_flt _ _).1]; exact hf
        have hm4 : w4.cell? ⟨1, 0, none⟩ = some (.int .i64 m) := by
          rw [World.cell?_of_block ((unhide G4).block 1 (by omega) (by omega))]
          exact unhide HM
        have HSL := hide hsl
        have HSF := hide hsf
        clear hsl hsf
        cases hD : digsB word with
        | false =>
          rw [hD] at HWT
          have HAW := hide (await_state w4 b v u s q ps ks { st with rest := s.data.toList.drop q } word m (unhide H4) hw hl4 hwl hm4 hb1)
          go_wp2_with fail
          refine (unhide HAW).mono ?_
          rintro en w6 ⟨rfl, u6, ks6, h6, g6⟩
          have HAD := hide (add_state w6 b v u6 s q ps ks6 _ 1 (r : Int) word h6 (unhide HSF) (unhide HSL))
          have G6 := hide g6
          clear h6 g6 HAW
          go_wp2_with fail
          refine (unhide HAD).mono ?_
          rintro en w7 ⟨rfl, v7, ps7, h7, g7⟩
          have H7 := hide h7
          have G7 := hide g7
          clear h7 g7 HAD
          go_wp2
          refine bodyPost_end (res0 rfl _ _) rfl ?_
          refine ⟨rfl, v7, u6, q, 0, ps7, ks6, ?_, (unhide G4).trans ((unhide G6).trans (unhide G7))⟩
          rw [unhide HWT]
          exact (unhide H7).x
        | true =>
          rw [hD] at HWT
          have hr4 := (unhide H4).rdr
          have HR4 := hide hr4
          clear hr4
          have HSE := hide (sees_any ⟨#[60]⟩ (unhide HR4))
          have hp60 : Lib.hasPrefix (s.data.toList.drop q) [60] = ((s.data.toList.drop q).head? == some 60) := hasP_head _ _
          have hp62 : Lib.hasPrefix (s.data.toList.drop q) [62] = ((s.data.toList.drop q).head? == some 62) := hasP_head _ _
          rw [show (⟨#[60]⟩ : ByteArray).data.toList = [60] from rfl, hp60] at HSE
          cases hA : ((s.data.toList.drop q).head? == some 60) with
          | true =>
            rw [hA] at HSE HWT
            clear hp60 hp62
            go_wp2_with fail
            refine (unhide HSE).mono ?_
            rintro en w6 ⟨rfl, k6, hw6⟩
            have h6 : LexAt w6 b v u s q ps ks { st with rest := s.data.toList.drop q } := by rw [hw6]; exact (unhide H4).below (below_drew _ _) (Nat.le_refl _)
            have G6 : Hid (GrownS w4 w6 (fun y => b ≤ y)) := hide (by rw [hw6]; exact grownS_of_below (below_drew _ _))
            have HAD := hide (add_state w6 b v u s q ps ks _ 4 (r : Int) word h6 hf hl4)
            clear hw6 h6 HSE
            go_wp2_with fail
            refine (unhide HAD).mono ?_
            rintro en w7 ⟨rfl, v7, ps7, h7, g7⟩
            have H7 := hide h7
            have G7 := hide g7
            clear h7 g7 HAD
            go_wp2
            refine bodyPost_ret (res0 rfl _ _) rfl ?_
            refine ⟨rfl, v7, u, q, 0, ps7, ks, ?_, (unhide G4).trans ((unhide G6).trans (unhide G7))⟩
            rw [unhide HWT]
            exact (unhide H7).x
          | false =>
            rw [hA] at HSE HWT
            go_wp2_with fail
            refine (unhide HSE).mono ?_
            rintro en w6 ⟨rfl, k6, hw6⟩
            have h6 : LexAt w6 b v u s q ps ks { st with rest := s.data.toList.drop q } := by rw [hw6]; exact (unhide H4).below (below_drew _ _) (Nat.le_refl _)
            have G6 : Hid (GrownS w4 w6 (fun y => b ≤ y)) := hide (by rw [hw6]; exact grownS_of_below (below_drew _ _))
            have HSG := hide (sees_any ⟨#[62]⟩ h6.rdr)
            rw [show (⟨#[62]⟩ : ByteArray).data.toList = [62] from rfl, hp62] at HSG
            have H6 := hide h6
            clear hw6 h6 HSE hp60 hp62
            cases hB : ((s.data.toList.drop q).head? == some 62) with
            | true =>
              rw [hB] at HSG HWT
              go_wp2_with fail
              refine (unhide HSG).mono ?_
              rintro en w8 ⟨rfl, k8, hw8⟩
              have h8 : LexAt w8 b v u s q ps ks { st with rest := s.data.toList.drop q } := by rw [hw8]; exact (unhide H6).below (below_drew _ _) (Nat.le_refl _)
              have G8 : Hid (GrownS w6 w8 (fun y => b ≤ y)) := hide (by rw [hw8]; exact grownS_of_below (below_drew _ _))
              have HAD := hide (add_state w8 b v u s q ps ks _ 4 (r : Int) word h8 hf hl4)
              clear hw8 h8 HSG
              go_wp2_with fail
              refine (unhide HAD).mono ?_
              rintro en w7 ⟨rfl, v7, ps7, h7, g7⟩
              have H7 := hide h7
              have G7 := hide g7
              clear h7 g7 HAD
              go_wp2
              refine bodyPost_ret (res0 rfl _ _) rfl ?_
              refine ⟨rfl, v7, u, q, 0, ps7, ks, ?_, (unhide G4).trans ((unhide G6).trans ((unhide G8).trans (unhide G7)))⟩
              rw [unhide HWT]
              exact (unhide H7).x
            | false =>
              rw [hB] at HSG HWT
              go_wp2_with fail
              refine (unhide HSG).mono ?_
              rintro en w8 ⟨rfl, k8, hw8⟩
              have h8 : LexAt w8 b v u s q ps ks { st with rest := s.data.toList.drop q } := by rw [hw8]; exact (unhide H6).below (below_drew _ _) (Nat.le_refl _)
              have G8 : Hid (GrownS w6 w8 (fun y => b ≤ y)) := hide (by rw [hw8]; exact grownS_of_below (below_drew _ _))
              have hm8 : w8.cell? ⟨1, 0, none⟩ = some (.int .i64 m) := by
                rw [World.cell?_of_block ((unhide G8).block 1 (by have := (unhide G6).size; have := (unhide G4).size; omega) (by omega)), World.cell?_of_block ((unhide G6).block 1 (by have := (unhide G4).size; omega) (by omega))]
                exact hm4
              have HAW := hide (await_state w8 b v u s q ps ks { st with rest := s.data.toList.drop q } word m h8 hw hl4 hwl hm8 hb1)
              clear hw8 h8 HSG hm8
              go_wp2_with fail
              refine (unhide HAW).mono ?_
              rintro en w9 ⟨rfl, u6, ks6, h9, g9⟩
              have HAD := hide (add_state w9 b v u6 s q ps ks6 _ 1 (r : Int) word h9 (unhide HSF) (unhide HSL))
              have G9 := hide g9
              clear h9 g9 HAW
              go_wp2_with fail
              refine (unhide HAD).mono ?_
              rintro en w7 ⟨rfl, v7, ps7, h7, g7⟩
              have H7 := hide h7
              have G7 := hide g7
              clear h7 g7 HAD
              go_wp2
              refine bodyPost_end (res0 rfl _ _) rfl ?_
              refine ⟨rfl, v7, u6, q, 0, ps7, ks6, ?_, (unhide G4).trans ((unhide G6).trans ((unhide G8).trans ((unhide G9).trans (unhide G7))))⟩
              rw [unhide HWT]
              exact (unhide H7).x
    · have hmo := more_any (hR.drewN 1)
      have hmb : moreB s q f = false := by unfold moreB; rw [show (f == 0) = false by simpa using hfe]; rfl
      rw [hmb] at hmo
      have HMO := hide hmo
      have c1 := hR.c1
      have c2 := hR.c2
      have HR := hide hR
      have HBL := hide hBL
      have HTE : Hid (wordL (s.size - r + 1) (s.data.toList.drop r) = .err f mm) := hide (by rw [unhide HTR, hTE])
      have hfe' : (f == 0) = false := by simpa using hfe
      clear hmo hmb hR hBL hTE hrq
      go_wp2_with fail
      refine wp_region_held_drew (S := fun w' => w'.cell? ⟨b, 1, none⟩ = some (.string s) ∧ w'.cell? ⟨b, 2, none⟩ = some (.int .i64 (q : Int))) (by kernel_rfl) ⟨c1, c2⟩ (fun hHeld => ?_)
      refine wpAnyH_take (i := 0) (oi := { dst := some 9, op := Op.move (Operand.tmp 0), type := 75, pos := "tokens.go:82", after := #[], guard := none }) (v := ?_) rfl (by kernel_rfl) (by kernel_rfl) (by kernel_rfl) (fun _ _ _ h => h) (Or.inl ⟨by rfl, ?_⟩) (by assumption) ?_
      rotate_left
      · intro w hSw; (try dsimp only at hSw); go_simp; (try with_reducible rfl)
      simp only [Act.put, List.setIfInBounds_toArray, List.set_cons_zero, List.set_cons_succ]
      refine wpAnyH_take (i := 1) (oi := { dst := some 10, op := Op.nilCheck (Operand.tmp 9), type := 0, pos := "tokens.go:82", after := #[{ on := 0, ground := Ground.data }], guard := none }) (v := ?_) rfl (by kernel_rfl) (by kernel_rfl) (by kernel_rfl) (fun _ _ _ h => h) (Or.inl ⟨by rfl, ?_⟩) (by assumption) ?_
      rotate_left
      · intro w hSw; (try dsimp only at hSw); go_simp; (try with_reducible rfl)
      simp only [Act.put, List.setIfInBounds_toArray, List.set_cons_zero, List.set_cons_succ]
      refine wpAnyH_take (i := 2) (oi := { dst := some 11, op := Op.fieldAddr 53 (Operand.tmp 10) 0, type := 0, pos := "tokens.go:82", after := #[{ on := 1, ground := Ground.data }], guard := none }) (v := ?_) rfl (by kernel_rfl) (by kernel_rfl) (by kernel_rfl) (fun _ _ _ h => h) (Or.inl ⟨by rfl, ?_⟩) (by assumption) ?_
      rotate_left
      · intro w hSw; (try dsimp only at hSw); go_simp; (try with_reducible rfl)
      simp only [Act.put, List.setIfInBounds_toArray, List.set_cons_zero, List.set_cons_succ]
      refine wpAnyH_ready (rs := [3]) (by kernel_rfl) (by simp) ?_
      refine AllReadyH.cons (o := { dst := some 12, op := Op.call { callee := Callee.value (Operand.func 19), args := #[Operand.tmp 11], argTypes := #[44] }, type := 4, pos := "tokens.go:82", after := #[{ on := 2, ground := Ground.data }], guard := none }) rfl (fun KK hKK => ?_) AllReadyH.nil
      go_simp
      refine (unhide HMO).mono ?_
      rintro en w1 ⟨rfl, k1, hw1⟩
      have H1 : Hid (Rdr w1 b 53 [v, u] s q d f bl) := hide (by rw [hw1]; exact ((unhide HR).drewN 1).drewN k1)
      have G1 : Hid (w.grownBy w1 (some b)) := hide (by rw [hw1]; exact (unhide HG).trans (grown_but ((grown_drewN wr 1).trans (grown_drewN _ k1)) (some b)))
      clear hw1
      have y1 := (unhide H1).c1
      have y2 := (unhide H1).c2
      refine hKK.out _ _ ⟨y1, y2⟩ (fun hHeld => ?_)
      clear hKK KK
      try simp only [Act.put, List.setIfInBounds_toArray, List.set_cons_zero, List.set_cons_succ]
      refine wpAnyH_take (i := 4) (oi := { dst := some 13, op := Op.move (Operand.tmp 12), type := 4, pos := "tokens.go:82", after := #[{ on := 3, ground := Ground.data }, { on := 3, ground := Ground.chain }], guard := none }) (v := ?_) rfl (by kernel_rfl) (by kernel_rfl) (by kernel_rfl) (fun _ _ _ h => h) (Or.inl ⟨by rfl, ?_⟩) (by assumption) ?_
      rotate_left
      · intro w hSw; (try dsimp only at hSw); go_simp; (try with_reducible rfl)
      simp only [Act.put, List.setIfInBounds_toArray, List.set_cons_zero, List.set_cons_succ]
      refine wpAnyH_take (i := 5) (oi := { dst := some 14, op := Op.move (Operand.tmp 0), type := 75, pos := "tokens.go:82", after := #[{ on := 4, ground := Ground.guard }], guard := some (4, true) }) (v := undef) rfl (by kernel_rfl) (by kernel_rfl) (by kernel_rfl) (fun _ _ _ h => h) (Or.inr ⟨by rfl, rfl⟩) (by assumption) ?_
      simp only [Act.put, List.setIfInBounds_toArray, List.set_cons_zero, List.set_cons_succ]
      refine wpAnyH_take (i := 6) (oi := { dst := some 15, op := Op.nilCheck (Operand.tmp 14), type := 0, pos := "tokens.go:82", after := #[{ on := 5, ground := Ground.data }, { on := 4, ground := Ground.guard }], guard := some (4, true) }) (v := undef) rfl (by kernel_rfl) (by kernel_rfl) (by kernel_rfl) (fun _ _ _ h => h) (Or.inr ⟨by rfl, rfl⟩) (by assumption) ?_
      simp only [Act.put, List.setIfInBounds_toArray, List.set_cons_zero, List.set_cons_succ]
      refine wpAnyH_take (i := 7) (oi := { dst := some 16, op := Op.fieldAddr 53 (Operand.tmp 15) 0, type := 0, pos := "tokens.go:82", after := #[{ on := 6, ground := Ground.data }, { on := 4, ground := Ground.guard }], guard := some (4, true) }) (v := undef) rfl (by kernel_rfl) (by kernel_rfl) (by kernel_rfl) (fun _ _ _ h => h) (Or.inr ⟨by rfl, rfl⟩) (by assumption) ?_
      simp only [Act.put, List.setIfInBounds_toArray, List.set_cons_zero, List.set_cons_succ]
      refine wpAnyH_take (i := 8) (oi := { dst := some 17, op := Op.fieldAddr 44 (Operand.tmp 16) 1, type := 0, pos := "tokens.go:82", after := #[{ on := 7, ground := Ground.data }, { on := 4, ground := Ground.guard }], guard := some (4, true) }) (v := undef) rfl (by kernel_rfl) (by kernel_rfl) (by kernel_rfl) (fun _ _ _ h => h) (Or.inr ⟨by rfl, rfl⟩) (by assumption) ?_
      simp only [Act.put, List.setIfInBounds_toArray, List.set_cons_zero, List.set_cons_succ]
      refine wpAnyH_take (i := 9) (oi := { dst := some 18, op := Op.load 9 (Operand.tmp 17), type := 9, pos := "tokens.go:82", after := #[{ on := 8, ground := Ground.data }, { on := 4, ground := Ground.guard }], guard := some (4, true) }) (v := undef) rfl (by kernel_rfl) (by kernel_rfl) (by kernel_rfl) (fun _ _ _ h => h) (Or.inr ⟨by rfl, rfl⟩) (by assumption) ?_
      simp only [Act.put, List.setIfInBounds_toArray, List.set_cons_zero, List.set_cons_succ]
      refine wpAnyH_take (i := 10) (oi := { dst := some 19, op := Op.move (Operand.tmp 0), type := 75, pos := "tokens.go:82", after := #[{ on := 4, ground := Ground.guard }], guard := some (4, true) }) (v := undef) rfl (by kernel_rfl) (by kernel_rfl) (by kernel_rfl) (fun _ _ _ h => h) (Or.inr ⟨by rfl, rfl⟩) (by assumption) ?_
      simp only [Act.put, List.setIfInBounds_toArray, List.set_cons_zero, List.set_cons_succ]
      refine wpAnyH_take (i := 11) (oi := { dst := some 20, op := Op.nilCheck (Operand.tmp 19), type := 0, pos := "tokens.go:82", after := #[{ on := 10, ground := Ground.data }, { on := 4, ground := Ground.guard }], guard := some (4, true) }) (v := undef) rfl (by kernel_rfl) (by kernel_rfl) (by kernel_rfl) (fun _ _ _ h => h) (Or.inr ⟨by rfl, rfl⟩) (by assumption) ?_
      simp only [Act.put, List.setIfInBounds_toArray, List.set_cons_zero, List.set_cons_succ]
      refine wpAnyH_take (i := 12) (oi := { dst := some 21, op := Op.fieldAddr 53 (Operand.tmp 20) 0, type := 0, pos := "tokens.go:82", after := #[{ on := 11, ground := Ground.data }, { on := 4, ground := Ground.guard }], guard := some (4, true) }) (v := undef) rfl (by kernel_rfl) (by kernel_rfl) (by kernel_rfl) (fun _ _ _ h => h) (Or.inr ⟨by rfl, rfl⟩) (by assumption) ?_
      simp only [Act.put, List.setIfInBounds_toArray, List.set_cons_zero, List.set_cons_succ]
      refine wpAnyH_take (i := 13) (oi := { dst := some 22, op := Op.fieldAddr 44 (Operand.tmp 21) 2, type := 0, pos := "tokens.go:82", after := #[{ on := 12, ground := Ground.data }, { on := 4, ground := Ground.guard }], guard := some (4, true) }) (v := undef) rfl (by kernel_rfl) (by kernel_rfl) (by kernel_rfl) (fun _ _ _ h => h) (Or.inr ⟨by rfl, rfl⟩) (by assumption) ?_
      simp only [Act.put, List.setIfInBounds_toArray, List.set_cons_zero, List.set_cons_succ]
      refine wpAnyH_take (i := 14) (oi := { dst := some 23, op := Op.load 3 (Operand.tmp 22), type := 3, pos := "tokens.go:82", after := #[{ on := 13, ground := Ground.data }, { on := 4, ground := Ground.guard }], guard := some (4, true) }) (v := undef) rfl (by kernel_rfl) (by kernel_rfl) (by kernel_rfl) (fun _ _ _ h => h) (Or.inr ⟨by rfl, rfl⟩) (by assumption) ?_
      simp only [Act.put, List.setIfInBounds_toArray, List.set_cons_zero, List.set_cons_succ]
      refine wpAnyH_take (i := 15) (oi := { dst := some 24, op := Op.index 9 (Operand.tmp 18) (Operand.tmp 23), type := 5, pos := "tokens.go:82", after := #[{ on := 9, ground := Ground.data }, { on := 14, ground := Ground.data }, { on := 4, ground := Ground.guard }], guard := some (4, true) }) (v := undef) rfl (by kernel_rfl) (by kernel_rfl) (by kernel_rfl) (fun _ _ _ h => h) (Or.inr ⟨by rfl, rfl⟩) (by assumption) ?_
      simp only [Act.put, List.setIfInBounds_toArray, List.set_cons_zero, List.set_cons_succ]
      refine wpAnyH_take (i := 16) (oi := { dst := some 25, op := Op.call { callee := Callee.value (Operand.func 52), args := #[Operand.tmp 24], argTypes := #[5] }, type := 4, pos := "tokens.go:82", after := #[{ on := 15, ground := Ground.data }, { on := 4, ground := Ground.chain }, { on := 4, ground := Ground.guard }], guard := some (4, true) }) (v := undef) rfl (by kernel_rfl) (by kernel_rfl) (by kernel_rfl) (fun _ _ _ h => h) (Or.inr ⟨by rfl, rfl⟩) (by assumption) ?_
      simp only [Act.put, List.setIfInBounds_toArray, List.set_cons_zero, List.set_cons_succ]
      refine wpAnyH_take (i := 17) (oi := { dst := some 26, op := Op.unOp UnOp.not 4 (Operand.tmp 25), type := 4, pos := "tokens.go:82", after := #[{ on := 16, ground := Ground.data }, { on := 4, ground := Ground.guard }], guard := some (4, true) }) (v := undef) rfl (by kernel_rfl) (by kernel_rfl) (by kernel_rfl) (fun _ _ _ h => h) (Or.inr ⟨by rfl, rfl⟩) (by assumption) ?_
      simp only [Act.put, List.setIfInBounds_toArray, List.set_cons_zero, List.set_cons_succ]
      refine wpAnyH_take (i := 18) (oi := { dst := some 27, op := Op.pick (Operand.tmp 13) (Operand.tmp 26) (Operand.const (Value.bool false)), type := 4, pos := "tokens.go:82", after := #[{ on := 4, ground := Ground.data }, { on := 17, ground := Ground.data }], guard := none }) (v := ?_) rfl (by kernel_rfl) (by kernel_rfl) (by kernel_rfl) (fun _ _ _ h => h) (Or.inl ⟨by rfl, ?_⟩) (by assumption) ?_
      rotate_left
      · intro w hSw; (try dsimp only at hSw); go_simp; (try with_reducible rfl)
      simp only [Act.put, List.setIfInBounds_toArray, List.set_cons_zero, List.set_cons_succ]
      clear hHeld
      refine wpAnyH_done (by kernel_rfl) ?_ _
      clear c1 c2 y1 y2
      have y3 := (unhide H1).c3
      go_wp2
      refine bodyPost_ret (res0 rfl _ _) rfl ?_
      refine ⟨rfl, v, u, q, d, ps, ks, ?_, grownS_own (unhide G1)⟩
      have hwt : wordTok s.size st = { st with flt := f, blm := bl } := by
        unfold wordTok
        rw [← unhide HRS, List.length_drop, data_len, unhide HTE, unhide HBL]
      rw [hwt]
      exact (unhide HX).move (st1 := { st with flt := f, blm := bl }) (unhide G1) (unhide H1) rfl rfl (fun e => absurd (show f = 0 from e) hfe) (fun e => absurd (show f = 0 from e) hfe) (fun e => absurd (show f = 0 from e) hfe)

end Go.Proofs.YtlmpdfeidjnmnaaDoor

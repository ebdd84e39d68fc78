/-
  Package word's thing, where a byte stands for itself.
-/
import Derived.Test.YtodcfgbcigjjfaaDoorWThing
namespace Go.Proofs.YtodcfgbcigjjfaaDoor
open Go.RowKit

set_option maxRecDepth 20000 in
set_option maxHeartbeats 4000000 in
theorem th_defk (k : Nat) (c : UInt8) (u rest : List UInt8) (w : World) (b : Nat) (X : Nat → Prop) (ps : List Prt) (he : WEnv w) (hk : k < 6) (hrl : (u ++ rest).length + 1 ≤ 4096) (h : LSt w b X ps) (hr : Room ps (2 * ((u ++ rest).length + 1) + 4)) (HPC : Hid (∀ W, WEnv W → Calls Tryd.prog 52 #[.int .i64 (k : Int), .string (BA (c :: (u ++ rest)))] W fun e w' => e = .returned (.tuple #[.int .i64 ((u.length : Int) + 1), .int .i64 0]) ∧ Below W.heap.size W w')) (hb3 : 3 ≤ b) (hc92 : c ≠ 92) (h39 : ¬ (c = 39 ∧ u ≠ [])) (h34 : ¬ (c = 34 ∧ u ≠ [])) (hc36 : c ≠ 36) (hk0 : k ≠ 0) :
    Calls Tryd.prog 40 #[.int .i64 (k : Int), .string (BA (c :: (u ++ rest))), (.func (Fn.func 32) #[.pointer (some ⟨b, 0, none⟩)] #[])] w fun e w' => WThEnd (.ok [litP [c] (allW k)] rest) (u ++ rest).length w b X ps e w' := by
  have h2w := he.two
  have HE := hide he
  have HH := hide h
  have HR := hide hr
  have hul : u.length ≤ 4096 := by simp at hrl; omega
  have hub : (u.length : Int) ≤ 4096 := by omega
  have hun : (u.length : Int) + 1 ≤ ((u.length : Int) + (rest.length : Int)) + 1 := by omega
  have hN0 : ((u ++ rest).length + 1 - rest.length : Nat) = u.length + 1 := by simp; omega
  obtain ⟨NN, hNN⟩ : ∃ x, x = (u ++ rest).length := ⟨_, rfl⟩
  rw [← hNN]
  have HN : Hid (((NN + 1 - rest.length : Nat) : Int) = (u.length : Int) + 1) := hide (by rw [hNN, hN0]; rfl)
  clear hNN
  have hsz : (0 : Int) < ((u ++ rest).length : Int) + 1 := by omega
  obtain ⟨cc, hcc⟩ : ∃ x : Int, x = (c.toNat : Int) := ⟨_, rfl⟩
  have hc0 : (((BA (c :: (u ++ rest)))[0]'(by simp)).toNat : Int) = cc := hcc.symm
  have hcr := byte_range c
  have hb92 : (cc == 92) = false := by rw [beq_eq_false_iff_ne, hcc]; exact fun e => hc92 (UInt8.toNat_inj.1 (show c.toNat = 92 by omega))
  have hb36 : (cc == 36) = false := by rw [beq_eq_false_iff_ne, hcc]; exact fun e => hc36 (UInt8.toNat_inj.1 (show c.toNat = 36 by omega))
  have hq39 : (cc == 39) = false ∨ ((cc == 39) = true ∧ ((u.length : Int) + 1 == 1) = true) := by
    by_cases e : c = 39
    · right
      have hu : u = [] := by
        cases u with
        | nil => rfl
        | cons _ _ => exact absurd ⟨e, by simp⟩ h39
      exact ⟨by rw [hcc, e]; rfl, by rw [hu]; rfl⟩
    · left; rw [beq_eq_false_iff_ne, hcc]; exact fun e' => e (UInt8.toNat_inj.1 (show c.toNat = 39 by omega))
  have hq34 : (cc == 34) = false ∨ ((cc == 34) = true ∧ ((u.length : Int) + 1 == 1) = true) := by
    by_cases e : c = 34
    · right
      have hu : u = [] := by
        cases u with
        | nil => rfl
        | cons _ _ => exact absurd ⟨e, by simp⟩ h34
      exact ⟨by rw [hcc, e]; rfl, by rw [hu]; rfl⟩
    · left; rw [beq_eq_false_iff_ne, hcc]; exact fun e' => e (UInt8.toNat_inj.1 (show c.toNat = 34 by omega))
  have hk00 : ((k : Int) == 0) = false := by rw [beq_eq_false_iff_ne]; omega
  have HX := hide (ext01 c (u ++ rest))
  have hsz1 : (1 : Int) ≤ ((u ++ rest).length : Int) + 1 := by omega
  have hsz2 : (1 : Int) ≤ ((u.length : Int) + (rest.length : Int)) + 1 := by omega
  have hk6 : (k : Int) < 6 := by omega
  clear hc92 h39 h34 hc36
  clear he h hr hcc hN0 hcr 
  go_enter Tryd.func40, Tryd.ntmps40
  go_wp2_with fail
  refine (unhide HPC _ (unhide HE)).mono ?_
  rintro e w1 ⟨rfl, b1⟩
  have HB1 := hide b1
  have HE1 := hide ((unhide HE).below (b1.mono (by omega)))
  have HH1 := hide ((unhide HH).below b1)
  have hw1 : 2 < w1.heap.size := by have := b1.size; omega
  clear b1 HPC
  rcases hq39 with hq39 | ⟨hq39, hal39⟩
  all_goals rcases hq34 with hq34 | ⟨hq34, hal34⟩
  all_goals
    have HB2 := HB1
    have HE2 := HE1
    have HH2 := HH1
    go_wp2_with fail
    refine wp_region_held_drew (S := fun w' => w'.cell? ⟨0, k * 4 + 2, none⟩ = some (.bool (allW k))) (by kernel_rfl) (by exact (unhide HE2).r2 k hk) (fun hHeld => ?_)
    refine wpAnyH_take (i := 0) (oi := { dst := some 25, op := Op.move (Operand.tmp 2), type := 57, pos := "read.go:148", after := #[], guard := none }) (v := ?_) rfl (by kernel_rfl) (by kernel_rfl) (by kernel_rfl) (fun _ _ _ h => h) (Or.inl ⟨by rfl, ?_⟩) (by assumption) ?_
    rotate_left
    · intro w hSw; (try dsimp only at hSw); go_simp; (try with_reducible rfl)
    simp only [Act.put, List.setIfInBounds_toArray, List.set_cons_zero, List.set_cons_succ]
    refine wpAnyH_take (i := 1) (oi := { dst := some 26, op := Op.move (Operand.tmp 1), type := 9, pos := "read.go:148", after := #[], guard := none }) (v := ?_) rfl (by kernel_rfl) (by kernel_rfl) (by kernel_rfl) (fun _ _ _ h => h) (Or.inl ⟨by rfl, ?_⟩) (by assumption) ?_
    rotate_left
    · intro w hSw; (try dsimp only at hSw); go_simp; (try with_reducible rfl)
    simp only [Act.put, List.setIfInBounds_toArray, List.set_cons_zero, List.set_cons_succ]
    refine wpAnyH_take (i := 2) (oi := { dst := some 27, op := Op.slice 9 (Operand.tmp 26) none (some (Operand.const (Value.int IntKind.i64 1))) none, type := 9, pos := "read.go:148", after := #[{ on := 1, ground := Ground.data }], guard := none }) (v := ?_) rfl (by kernel_rfl) (by kernel_rfl) (by kernel_rfl) (fun _ _ _ h => h) (Or.inl ⟨by rfl, ?_⟩) (by assumption) ?_
    rotate_left
    · intro w hSw; (try dsimp only at hSw); go_simp; (try with_reducible rfl)
    simp only [Act.put, List.setIfInBounds_toArray, List.set_cons_zero, List.set_cons_succ]
    refine wpAnyH_take (i := 3) (oi := { dst := some 28, op := Op.move (Operand.tmp 0), type := 46, pos := "read.go:148", after := #[], guard := none }) (v := ?_) rfl (by kernel_rfl) (by kernel_rfl) (by kernel_rfl) (fun _ _ _ h => h) (Or.inl ⟨by rfl, ?_⟩) (by assumption) ?_
    rotate_left
    · intro w hSw; (try dsimp only at hSw); go_simp; (try with_reducible rfl)
    simp only [Act.put, List.setIfInBounds_toArray, List.set_cons_zero, List.set_cons_succ]
    refine wpAnyH_take (i := 4) (oi := { dst := some 29, op := Op.indexAddr 85 (Operand.global 0) (Operand.tmp 28), type := 0, pos := "read.go:148", after := #[{ on := 3, ground := Ground.data }], guard := none }) (v := ?_) rfl (by kernel_rfl) (by kernel_rfl) (by kernel_rfl) (fun _ _ _ h => h) (Or.inl ⟨by rfl, ?_⟩) (by assumption) ?_
    rotate_left
    · intro w hSw; (try dsimp only at hSw); go_simp; (try with_reducible rfl)
    simp only [Act.put, List.setIfInBounds_toArray, List.set_cons_zero, List.set_cons_succ]
    refine wpAnyH_take (i := 5) (oi := { dst := some 30, op := Op.fieldAddr 84 (Operand.tmp 29) 2, type := 0, pos := "read.go:148", after := #[{ on := 4, ground := Ground.data }], guard := none }) (v := ?_) rfl (by kernel_rfl) (by kernel_rfl) (by kernel_rfl) (fun _ _ _ h => h) (Or.inl ⟨by rfl, ?_⟩) (by assumption) ?_
    rotate_left
    · intro w hSw; (try dsimp only at hSw); go_simp; (try with_reducible rfl)
    simp only [Act.put, List.setIfInBounds_toArray, List.set_cons_zero, List.set_cons_succ]
    refine wpAnyH_take (i := 6) (oi := { dst := some 31, op := Op.load 4 (Operand.tmp 30), type := 4, pos := "read.go:148", after := #[{ on := 5, ground := Ground.data }], guard := none }) (v := ?_) rfl (by kernel_rfl) (by kernel_rfl) (by kernel_rfl) (fun _ _ _ h => h) (Or.inl ⟨by rfl, ?_⟩) (by assumption) ?_
    rotate_left
    · intro w hSw; (try dsimp only at hSw); go_simp; (try with_reducible rfl)
    simp only [Act.put, List.setIfInBounds_toArray, List.set_cons_zero, List.set_cons_succ]
    refine wpAnyH_ready (rs := [7]) (by kernel_rfl) (by simp) ?_
    refine AllReadyH.cons (o := { dst := some 32, op := Op.call { callee := Callee.value (Operand.func 54), args := #[Operand.tmp 27, Operand.tmp 31], argTypes := #[9, 4] }, type := 35, pos := "read.go:148", after := #[{ on := 2, ground := Ground.data }, { on := 6, ground := Ground.data }], guard := none }) rfl (fun KK hKK => ?_) AllReadyH.nil
    go_simp
    refine (lit_any _ _ _).mono ?_
    rintro e w3 ⟨rfl, b3⟩
    have HB3 := hide ((below_drew _ 1).trans (b3.mono (Nat.le_refl _)))
    have HE3 := hide ((unhide HE2).below ((unhide HB3).mono (by omega)))
    clear b3
    refine hKK.out _ _ (by exact (unhide HE3).r2 k hk) (fun hHeld => ?_)
    clear hKK KK
    try simp only [Act.put, List.setIfInBounds_toArray, List.set_cons_zero, List.set_cons_succ]
    refine wpAnyH_ready (rs := [8]) (by kernel_rfl) (by simp) ?_
    refine AllReadyH.cons (o := { dst := some 33, op := Op.call { callee := Callee.value (Operand.tmp 25), args := #[Operand.tmp 32], argTypes := #[35] }, type := 0, pos := "read.go:148", after := #[{ on := 0, ground := Ground.data }, { on := 7, ground := Ground.data }, { on := 7, ground := Ground.chain }], guard := none }) rfl (fun KK hKK => ?_) AllReadyH.nil
    go_simp
    rw [unhide HX]
    refine (add_plain _ b X ps 1 (BA [c]) _ 0 false ((unhide HH2).below (unhide HB3)) ⟨by have := (unhide HR).1; show _ + 1 ≤ _; omega, by have := (unhide HR).2; show _ + 1 ≤ _; omega⟩).mono ?_
    rintro e w4 ⟨rfl, a4⟩
    have HA4 := hide a4
    have HE4 : Hid (WEnv w4) := hide (by obtain ⟨X4, _, g4, _⟩ := a4; exact (unhide HE3).grown g4 (fun k hk => by have := (unhide HH2).lo k hk; omega))
    clear a4
    refine hKK.out _ _ (by exact (unhide HE4).r2 k hk) (fun hHeld => ?_)
    clear hKK KK
    try simp only [Act.put, List.setIfInBounds_toArray, List.set_cons_zero, List.set_cons_succ]
    clear hHeld
    refine wpAnyH_done (by kernel_rfl) ?_ _
    go_wp2
    go_ret2
    exact ⟨ret_th (unhide HN).symm rfl, ((unhide HA4).of_below (unhide HB3)).of_below (unhide HB2)⟩
set_option maxRecDepth 20000 in
set_option maxHeartbeats 4000000 in
theorem th_def0 (k : Nat) (c : UInt8) (u rest : List UInt8) (w : World) (b : Nat) (X : Nat → Prop) (ps : List Prt) (he : WEnv w) (hk : k < 6) (hrl : (u ++ rest).length + 1 ≤ 4096) (h : LSt w b X ps) (hr : Room ps (2 * ((u ++ rest).length + 1) + 4)) (HPC : Hid (∀ W, WEnv W → Calls Tryd.prog 52 #[.int .i64 (k : Int), .string (BA (c :: (u ++ rest)))] W fun e w' => e = .returned (.tuple #[.int .i64 ((u.length : Int) + 1), .int .i64 0]) ∧ Below W.heap.size W w')) (hb3 : 3 ≤ b) (hc92 : c ≠ 92) (h39 : ¬ (c = 39 ∧ u ≠ [])) (h34 : ¬ (c = 34 ∧ u ≠ [])) (hc36 : c ≠ 36) (hk0 : k = 0) (hme : metB (c.toNat : Int) = false) :
    Calls Tryd.prog 40 #[.int .i64 (k : Int), .string (BA (c :: (u ++ rest))), (.func (Fn.func 32) #[.pointer (some ⟨b, 0, none⟩)] #[])] w fun e w' => WThEnd (.ok [litP [c] (allW 0)] rest) (u ++ rest).length w b X ps e w' := by
  have h2w := he.two
  have HE := hide he
  have HH := hide h
  have HR := hide hr
  have hul : u.length ≤ 4096 := by simp at hrl; omega
  have hub : (u.length : Int) ≤ 4096 := by omega
  have hun : (u.length : Int) + 1 ≤ ((u.length : Int) + (rest.length : Int)) + 1 := by omega
  have hN0 : ((u ++ rest).length + 1 - rest.length : Nat) = u.length + 1 := by simp; omega
  obtain ⟨NN, hNN⟩ : ∃ x, x = (u ++ rest).length := ⟨_, rfl⟩
  rw [← hNN]
  have HN : Hid (((NN + 1 - rest.length : Nat) : Int) = (u.length : Int) + 1) := hide (by rw [hNN, hN0]; rfl)
  clear hNN
  have hsz : (0 : Int) < ((u ++ rest).length : Int) + 1 := by omega
  obtain ⟨cc, hcc⟩ : ∃ x : Int, x = (c.toNat : Int) := ⟨_, rfl⟩
  have hc0 : (((BA (c :: (u ++ rest)))[0]'(by simp)).toNat : Int) = cc := hcc.symm
  have hcr := byte_range c
  have hb92 : (cc == 92) = false := by rw [beq_eq_false_iff_ne, hcc]; exact fun e => hc92 (UInt8.toNat_inj.1 (show c.toNat = 92 by omega))
  have hb36 : (cc == 36) = false := by rw [beq_eq_false_iff_ne, hcc]; exact fun e => hc36 (UInt8.toNat_inj.1 (show c.toNat = 36 by omega))
  have hq39 : (cc == 39) = false ∨ ((cc == 39) = true ∧ ((u.length : Int) + 1 == 1) = true) := by
    by_cases e : c = 39
    · right
      have hu : u = [] := by
        cases u with
        | nil => rfl
        | cons _ _ => exact absurd ⟨e, by simp⟩ h39
      exact ⟨by rw [hcc, e]; rfl, by rw [hu]; rfl⟩
    · left; rw [beq_eq_false_iff_ne, hcc]; exact fun e' => e (UInt8.toNat_inj.1 (show c.toNat = 39 by omega))
  have hq34 : (cc == 34) = false ∨ ((cc == 34) = true ∧ ((u.length : Int) + 1 == 1) = true) := by
    by_cases e : c = 34
    · right
      have hu : u = [] := by
        cases u with
        | nil => rfl
        | cons _ _ => exact absurd ⟨e, by simp⟩ h34
      exact ⟨by rw [hcc, e]; rfl, by rw [hu]; rfl⟩
    · left; rw [beq_eq_false_iff_ne, hcc]; exact fun e' => e (UInt8.toNat_inj.1 (show c.toNat = 34 by omega))
  have HME := hide (fun W => meta_any (c.toNat : Int) W hcr.1 hcr.2)
  rw [hme, ← hcc] at HME
  subst hk0
  clear hme
  have HX := hide (ext01 c (u ++ rest))
  have hsz1 : (1 : Int) ≤ ((u ++ rest).length : Int) + 1 := by omega
  have hsz2 : (1 : Int) ≤ ((u.length : Int) + (rest.length : Int)) + 1 := by omega
  have hk6 : (0 : Int) < 6 := by omega
  clear hc92 h39 h34 hc36
  clear he h hr hcc hN0 hcr 
  go_enter Tryd.func40, Tryd.ntmps40
  go_wp2_with fail
  refine (unhide HPC _ (unhide HE)).mono ?_
  rintro e w1 ⟨rfl, b1⟩
  have HB1 := hide b1
  have HE1 := hide ((unhide HE).below (b1.mono (by omega)))
  have HH1 := hide ((unhide HH).below b1)
  have hw1 : 2 < w1.heap.size := by have := b1.size; omega
  clear b1 HPC
  rcases hq39 with hq39 | ⟨hq39, hal39⟩
  all_goals rcases hq34 with hq34 | ⟨hq34, hal34⟩
  all_goals
    go_wp2_with fail
    refine (unhide HME _).mono ?_
    rintro e w2 ⟨rfl, b2⟩
    have HB2 := hide ((unhide HB1).trans (b2.mono (unhide HB1).size))
    have HE2 := hide ((unhide HE1).below (b2.mono (by omega)))
    have HH2 := hide ((unhide HH1).below b2)
    have hw2s : 2 < w2.heap.size := by have := b2.size; omega
    clear b2
    go_wp2_with fail
    refine wp_region_held_drew (S := fun w' => w'.cell? ⟨0, 0 * 4 + 2, none⟩ = some (.bool (allW 0))) (by kernel_rfl) (by exact (unhide HE2).r2 0 hk) (fun hHeld => ?_)
    refine wpAnyH_take (i := 0) (oi := { dst := some 25, op := Op.move (Operand.tmp 2), type := 57, pos := "read.go:148", after := #[], guard := none }) (v := ?_) rfl (by kernel_rfl) (by kernel_rfl) (by kernel_rfl) (fun _ _ _ h => h) (Or.inl ⟨by rfl, ?_⟩) (by assumption) ?_
    rotate_left
    · intro w hSw; (try dsimp only at hSw); go_simp; (try with_reducible rfl)
    simp only [Act.put, List.setIfInBounds_toArray, List.set_cons_zero, List.set_cons_succ]
    refine wpAnyH_take (i := 1) (oi := { dst := some 26, op := Op.move (Operand.tmp 1), type := 9, pos := "read.go:148", after := #[], guard := none }) (v := ?_) rfl (by kernel_rfl) (by kernel_rfl) (by kernel_rfl) (fun _ _ _ h => h) (Or.inl ⟨by rfl, ?_⟩) (by assumption) ?_
    rotate_left
    · intro w hSw; (try dsimp only at hSw); go_simp; (try with_reducible rfl)
    simp only [Act.put, List.setIfInBounds_toArray, List.set_cons_zero, List.set_cons_succ]
    refine wpAnyH_take (i := 2) (oi := { dst := some 27, op := Op.slice 9 (Operand.tmp 26) none (some (Operand.const (Value.int IntKind.i64 1))) none, type := 9, pos := "read.go:148", after := #[{ on := 1, ground := Ground.data }], guard := none }) (v := ?_) rfl (by kernel_rfl) (by kernel_rfl) (by kernel_rfl) (fun _ _ _ h => h) (Or.inl ⟨by rfl, ?_⟩) (by assumption) ?_
    rotate_left
    · intro w hSw; (try dsimp only at hSw); go_simp; (try with_reducible rfl)
    simp only [Act.put, List.setIfInBounds_toArray, List.set_cons_zero, List.set_cons_succ]
    refine wpAnyH_take (i := 3) (oi := { dst := some 28, op := Op.move (Operand.tmp 0), type := 46, pos := "read.go:148", after := #[], guard := none }) (v := ?_) rfl (by kernel_rfl) (by kernel_rfl) (by kernel_rfl) (fun _ _ _ h => h) (Or.inl ⟨by rfl, ?_⟩) (by assumption) ?_
    rotate_left
    · intro w hSw; (try dsimp only at hSw); go_simp; (try with_reducible rfl)
    simp only [Act.put, List.setIfInBounds_toArray, List.set_cons_zero, List.set_cons_succ]
    refine wpAnyH_take (i := 4) (oi := { dst := some 29, op := Op.indexAddr 85 (Operand.global 0) (Operand.tmp 28), type := 0, pos := "read.go:148", after := #[{ on := 3, ground := Ground.data }], guard := none }) (v := ?_) rfl (by kernel_rfl) (by kernel_rfl) (by kernel_rfl) (fun _ _ _ h => h) (Or.inl ⟨by rfl, ?_⟩) (by assumption) ?_
    rotate_left
    · intro w hSw; (try dsimp only at hSw); go_simp; (try with_reducible rfl)
    simp only [Act.put, List.setIfInBounds_toArray, List.set_cons_zero, List.set_cons_succ]
    refine wpAnyH_take (i := 5) (oi := { dst := some 30, op := Op.fieldAddr 84 (Operand.tmp 29) 2, type := 0, pos := "read.go:148", after := #[{ on := 4, ground := Ground.data }], guard := none }) (v := ?_) rfl (by kernel_rfl) (by kernel_rfl) (by kernel_rfl) (fun _ _ _ h => h) (Or.inl ⟨by rfl, ?_⟩) (by assumption) ?_
    rotate_left
    · intro w hSw; (try dsimp only at hSw); go_simp; (try with_reducible rfl)
    simp only [Act.put, List.setIfInBounds_toArray, List.set_cons_zero, List.set_cons_succ]
    refine wpAnyH_take (i := 6) (oi := { dst := some 31, op := Op.load 4 (Operand.tmp 30), type := 4, pos := "read.go:148", after := #[{ on := 5, ground := Ground.data }], guard := none }) (v := ?_) rfl (by kernel_rfl) (by kernel_rfl) (by kernel_rfl) (fun _ _ _ h => h) (Or.inl ⟨by rfl, ?_⟩) (by assumption) ?_
    rotate_left
    · intro w hSw; (try dsimp only at hSw); go_simp; (try with_reducible rfl)
    simp only [Act.put, List.setIfInBounds_toArray, List.set_cons_zero, List.set_cons_succ]
    refine wpAnyH_ready (rs := [7]) (by kernel_rfl) (by simp) ?_
    refine AllReadyH.cons (o := { dst := some 32, op := Op.call { callee := Callee.value (Operand.func 54), args := #[Operand.tmp 27, Operand.tmp 31], argTypes := #[9, 4] }, type := 35, pos := "read.go:148", after := #[{ on := 2, ground := Ground.data }, { on := 6, ground := Ground.data }], guard := none }) rfl (fun KK hKK => ?_) AllReadyH.nil
    go_simp
    refine (lit_any _ _ _).mono ?_
    rintro e w3 ⟨rfl, b3⟩
    have HB3 := hide ((below_drew _ 1).trans (b3.mono (Nat.le_refl _)))
    have HE3 := hide ((unhide HE2).below ((unhide HB3).mono (by omega)))
    clear b3
    refine hKK.out _ _ (by exact (unhide HE3).r2 0 hk) (fun hHeld => ?_)
    clear hKK KK
    try simp only [Act.put, List.setIfInBounds_toArray, List.set_cons_zero, List.set_cons_succ]
    refine wpAnyH_ready (rs := [8]) (by kernel_rfl) (by simp) ?_
    refine AllReadyH.cons (o := { dst := some 33, op := Op.call { callee := Callee.value (Operand.tmp 25), args := #[Operand.tmp 32], argTypes := #[35] }, type := 0, pos := "read.go:148", after := #[{ on := 0, ground := Ground.data }, { on := 7, ground := Ground.data }, { on := 7, ground := Ground.chain }], guard := none }) rfl (fun KK hKK => ?_) AllReadyH.nil
    go_simp
    rw [unhide HX]
    refine (add_plain _ b X ps 1 (BA [c]) _ 0 false ((unhide HH2).below (unhide HB3)) ⟨by have := (unhide HR).1; show _ + 1 ≤ _; omega, by have := (unhide HR).2; show _ + 1 ≤ _; omega⟩).mono ?_
    rintro e w4 ⟨rfl, a4⟩
    have HA4 := hide a4
    have HE4 : Hid (WEnv w4) := hide (by obtain ⟨X4, _, g4, _⟩ := a4; exact (unhide HE3).grown g4 (fun k hk => by have := (unhide HH2).lo k hk; omega))
    clear a4
    refine hKK.out _ _ (by exact (unhide HE4).r2 0 hk) (fun hHeld => ?_)
    clear hKK KK
    try simp only [Act.put, List.setIfInBounds_toArray, List.set_cons_zero, List.set_cons_succ]
    clear hHeld
    refine wpAnyH_done (by kernel_rfl) ?_ _
    go_wp2
    go_ret2
    exact ⟨ret_th (unhide HN).symm rfl, ((unhide HA4).of_below (unhide HB3)).of_below (unhide HB2)⟩

end Go.Proofs.YtodcfgbcigjjfaaDoor

/-
  Files (stage 14): Open.
  THE FRAME OF A LAW: from 'the call returns true and writes nothing that was there' to the row's step, over any program; the world's shape and what the listed variables hold are handed to the walk.
  What all laws of this seat (stage 14) share: the frame, the listed variables, the arguments that came in.
-/
import Derived.Test.YtnpeiibecihleaaGreatDoorM21
import Derived.WalkKit
import Derived.ProofKit
import Derived.OpenShut
import Derived.Below
import Derived.LaidMore
import Derived.Lay
import Derived.SevenTiedAt
import Derived.Stop.Joined
import Derived.Test.YtnpeiibecihleaaGreatDoorTie
import Derived.Test.YtnpeiibecihleaaGreatDoorCards
import Derived.Deep.Slices
import Derived.SliceStrings
import Derived.Stop.LaidErr
import Derived.Lib.LaidTab
/- Files (stage 14): Open. -/
namespace Go.Proofs.YtnpeiibecihleaaGreatDoor
open Go.RowKit Go.Maps

theorem walk_rg {s : NS} {n : Nat} (K : NOk s n) (d : Int) (p : List UInt8) (fl : Bool) : 0 ≤ (walkN s d p fl).1 ∧ (walkN s d p fl).1 ≤ 1024 := by
  unfold walkN
  split
  · rename_i h
    have hr := isD_rng K h
    exact (goes_bnd K 8 p fl 8 hr.1 hr.2).1
  · exact ⟨by decide, by decide⟩
theorem made_rg {s s' : NS} {n nb : Nat} (K : NOk s n) {d N E : Int} {p t : List UInt8} {k : Int} (h : MadeSp s nb d p k t N E s') : 0 ≤ N ∧ N ≤ 1024 := by
  cases h with
  | bad h => exact ⟨by decide, by decide⟩
  | nodes h1 h2 => exact ⟨by decide, by decide⟩
  | space => exact ⟨by decide, by decide⟩
  | done N' E' T1 T2 h1 h2 h3 h4 h5 =>
    have := make_rng h2 K.max
    omega
set_option maxRecDepth 20000 in
set_option maxHeartbeats 1000000 in
theorem fnil_no {w : World} {f q nb n : Nat} {B : Bas} {Y : Nat → Prop} {s : NS} (H : FX w f q Y s nb n B) : Calls Tryz.prog 32 #[.pointer (some ⟨f, 0, none⟩)] w fun e w' => e = .returned (.bool false) ∧ w' = w := by
  have HR := hide (froot_any H)
  clear H
  go_enter Tryz.func32, Tryz.ntmps32
  go_wp2_with fail
  refine (unhide HR).mono ?_
  rintro e w1 ⟨rfl, hw1⟩
  subst hw1
  go_wp2_with fail
  go_ret
  exact ⟨rfl, rfl⟩
set_option maxRecDepth 20000 in
set_option maxHeartbeats 1000000 in
theorem fdir_any {w : World} {f q nb n : Nat} {B : Bas} {Y : Nat → Prop} {s : NS} (H : FX w f q Y s nb n B) (d : Int) (hb : -9223372036854775808 ≤ d ∧ d ≤ 9223372036854775807) : Calls Tryz.prog 76 #[.pointer (some ⟨f, 0, none⟩), .int .i64 d] w fun e w' => e = .returned (.bool (isD s d)) ∧ Below w.heap.size w w' := by
  have HS := hide (stat_any H d hb)
  have hk : isD s d = decide (statK s d = 2) := rfl
  rw [hk]
  obtain ⟨k, hk⟩ : ∃ k, k = statK s d := ⟨_, rfl⟩
  rw [← hk] at HS ⊢
  obtain ⟨a, ha⟩ : ∃ a : Int, a = (if kdI s.T d = 0 then 0 else (statZ s d : Int)) := ⟨_, rfl⟩
  obtain ⟨b, hb'⟩ : ∃ b : Int, b = (if kdI s.T d = 0 then 0 else (nmI s.T d : Int)) := ⟨_, rfl⟩
  obtain ⟨c, hc⟩ : ∃ c : Int, c = statE s d := ⟨_, rfl⟩
  rw [← ha, ← hb', ← hc] at HS
  clear H hk ha hb' hc
  by_cases h2 : k = 2
  · subst h2
    rw [decide_eq_true rfl]
    go_enter Tryz.func76, Tryz.ntmps76
    go_wp2_with fail
    refine (unhide HS).mono ?_
    rintro e w1 ⟨rfl, b1⟩
    have HB1 := hide b1
    clear b1
    go_wp2_with fail
    go_ret
    exact ⟨rfl, (unhide HB1).alloc (unhide HB1).size _⟩
  · have h3 : (((k : Nat) : Int) == 2) = false := by rw [beq_eq_false_iff_ne]; omega
    rw [decide_eq_false h2]
    clear h2
    go_enter Tryz.func76, Tryz.ntmps76
    go_wp2_with fail
    refine (unhide HS).mono ?_
    rintro e w1 ⟨rfl, b1⟩
    have HB1 := hide b1
    clear b1
    go_wp2_with fail
    go_ret
    exact ⟨rfl, (unhide HB1).alloc (unhide HB1).size _⟩
def crE (E : Int) : Int := if E = 22 then 23 else E
def crN (N E : Int) : Int := if E = 22 then 0 else N
set_option maxRecDepth 20000 in
set_option maxHeartbeats 1000000 in
theorem fcreate_any {w : World} {f q nb n : Nat} {B : Bas} {Y : Nat → Prop} {s : NS} (H : FX w f q Y s nb n B) (hnn : n ≤ 10000) (d : Int) (p : List UInt8) (hb : -9223372036854775808 ≤ d ∧ d ≤ 9223372036854775807) (hp : p.length ≤ 100000) : Calls Tryz.prog 75 #[.pointer (some ⟨f, 0, none⟩), .int .i64 d, .string (BA p)] w fun e w' => ∃ N E, e = .returned (.tuple #[.int .i64 (crN N E), .int .i64 (crE E)]) ∧ Hid (∃ s', MadeSp s nb d p 1 [] N E s' ∧ FX w' f q Y s' nb (n + 1) B) := by
  have HM := hide (make_any H hnn d p hb hp)
  clear H
  go_enter Tryz.func75, Tryz.ntmps75
  go_wp2_with fail
  refine (unhide HM).mono ?_
  rintro e w1 ⟨N, E, rfl, HX⟩
  by_cases hE : E = 22
  · subst hE
    go_wp2_with fail
    go_ret2
    exact ⟨N, 22, rfl, HX⟩
  · have hE1 : (E == 22) = false := by rw [beq_eq_false_iff_ne]; exact hE
    have HE := hide hE
    clear hE
    go_wp2_with fail
    go_ret2
    refine ⟨N, E, ?_, HX⟩
    have e1 : crN N E = N := if_neg (unhide HE)
    have e2 : crE E = E := if_neg (unhide HE)
    rw [e1, e2]
    rfl
/-- Which node is opened. -/
inductive FiSp (s : NS) (nb : Nat) (d : Int) (p : List UInt8) (fl : Int) : Int → Int → NS → Prop
  | mk (N E : Int) (s' : NS) : (walkN s d p true).2 = 23 → hasF fl 8 = true → MadeSp s nb d p 1 [] N E s' → FiSp s nb d p fl (crN N E) (crE E) s'
  | no : (walkN s d p true).2 ≠ 0 → ((walkN s d p true).2 = 23 → hasF fl 8 = false) → FiSp s nb d p fl 0 (walkN s d p true).2 s
  | there : (walkN s d p true).2 = 0 → hasF fl 40 = true → FiSp s nb d p fl 0 22 s
  | dir : (walkN s d p true).2 = 0 → hasF fl 40 = false → isD s (walkN s d p true).1 = true → FiSp s nb d p fl 0 24 s
  | ok : (walkN s d p true).2 = 0 → hasF fl 40 = false → isD s (walkN s d p true).1 = false → FiSp s nb d p fl (walkN s d p true).1 0 s
theorem fi_rg {s s' : NS} {n nb : Nat} (K : NOk s n) {d N E : Int} {p : List UInt8} {fl : Int} (h : FiSp s nb d p fl N E s') : 0 ≤ N ∧ N ≤ 1024 := by
  cases h with
  | mk N' E' s' h1 h2 h3 =>
    have := made_rg K h3
    unfold crN
    split
    · omega
    · exact this
  | no => exact ⟨by decide, by decide⟩
  | there => exact ⟨by decide, by decide⟩
  | dir => exact ⟨by decide, by decide⟩
  | ok => exact walk_rg K _ _ _
set_option maxRecDepth 20000 in
set_option maxHeartbeats 4000000 in
theorem ffind_any {w : World} {f q nb n : Nat} {B : Bas} {Y : Nat → Prop} {s : NS} {l : List (Nat × Fl)} (H : GX w f q Y s nb n B l) (hnn : n ≤ 10000) (d : Int) (p : List UInt8) (fl : Int) (hb : -9223372036854775808 ≤ d ∧ d ≤ 9223372036854775807) (hp : p.length ≤ 100000) : Calls Tryz.prog 33 #[.pointer (some ⟨f, 0, none⟩), .int .i64 d, .string (BA p), .int .i64 fl] w fun e w' => ∃ N E, e = .returned (.tuple #[.int .i64 N, .int .i64 E]) ∧ Hid (∃ s', FiSp s nb d p fl N E s' ∧ GX w' f q Y s' nb (n + 1) B l) := by
  have HW := hide (walk_any H.fx d p true hb hp)
  have hrg := walk_rg H.fx.nd.ok d p true
  have HC : Hid (∀ W, Below w.heap.size w W → Calls Tryz.prog 75 #[.pointer (some ⟨f, 0, none⟩), .int .i64 d, .string (BA p)] W fun e w' => ∃ N E, e = .returned (.tuple #[.int .i64 (crN N E), .int .i64 (crE E)]) ∧ Hid (∃ s', MadeSp s nb d p 1 [] N E s' ∧ GX w' f q Y s' nb (n + 1) B l)) := hide (fun W hW => (fcreate_any (H.below hW).fx.rebased hnn d p hb hp).mono (fun e w' h => by
    obtain ⟨N, E, e1, e2⟩ := h
    obtain ⟨s', e3, e4⟩ := unhide e2
    exact ⟨N, E, e1, hide ⟨s', e3, (H.below hW).tree e4⟩⟩))
  have HD : Hid (∀ W, Below w.heap.size w W → Calls Tryz.prog 76 #[.pointer (some ⟨f, 0, none⟩), .int .i64 (walkN s d p true).1] W fun e w' => e = .returned (.bool (isD s (walkN s d p true).1)) ∧ Below w.heap.size w w') := hide (fun W hW => (fdir_any (H.below hW).fx _ (by omega)).mono (fun e w' h => ⟨h.1, hW.trans (h.2.mono hW.size)⟩))
  have H8 : Hid (∀ W, Calls Tryz.prog 34 #[.int .i64 fl, .int .i64 8] W fun e w' => e = .returned (.bool (hasF fl 8)) ∧ w' = W) := hide (fun W => has_any fl 8 W)
  have H40 : Hid (∀ W, Calls Tryz.prog 34 #[.int .i64 fl, .int .i64 40] W fun e w' => e = .returned (.bool (hasF fl 40)) ∧ w' = W) := hide (fun W => has_any fl 40 W)
  have HG : Hid (∀ W, Below w.heap.size w W → GX W f q Y s nb (n + 1) B l) := hide (fun W hW => (H.below hW).mono (Nat.le_succ _))
  have HS1 : Hid (∀ N E s', (walkN s d p true).2 = 23 → hasF fl 8 = true → MadeSp s nb d p 1 [] N E s' → FiSp s nb d p fl (crN N E) (crE E) s') := hide (fun N E s' a b c => .mk N E s' a b c)
  have HS2 : Hid ((walkN s d p true).2 ≠ 0 → ((walkN s d p true).2 = 23 → hasF fl 8 = false) → FiSp s nb d p fl 0 (walkN s d p true).2 s) := hide .no
  have HS3 : Hid ((walkN s d p true).2 = 0 → hasF fl 40 = true → FiSp s nb d p fl 0 22 s) := hide .there
  have HS4 : Hid ((walkN s d p true).2 = 0 → hasF fl 40 = false → isD s (walkN s d p true).1 = true → FiSp s nb d p fl 0 24 s) := hide .dir
  have HS5 : Hid ((walkN s d p true).2 = 0 → hasF fl 40 = false → isD s (walkN s d p true).1 = false → FiSp s nb d p fl (walkN s d p true).1 0 s) := hide .ok
  obtain ⟨N, hN⟩ : ∃ N, N = (walkN s d p true).1 := ⟨_, rfl⟩
  obtain ⟨E, hE⟩ : ∃ E, E = (walkN s d p true).2 := ⟨_, rfl⟩
  obtain ⟨f8, hf8⟩ : ∃ b, b = hasF fl 8 := ⟨_, rfl⟩
  obtain ⟨f40, hf40⟩ : ∃ b, b = hasF fl 40 := ⟨_, rfl⟩
  obtain ⟨dd, hdd⟩ : ∃ b, b = isD s (walkN s d p true).1 := ⟨_, rfl⟩
  rw [← hdd] at HD HS4 HS5
  rw [← hN, ← hE] at HW
  rw [← hN] at HD HS5
  rw [← hE] at HS1 HS2 HS3 HS4 HS5
  rw [← hf8] at H8 HS1 HS2
  rw [← hf40] at H40 HS3 HS4 HS5
  obtain ⟨A, hA⟩ : ∃ A, A = BA p := ⟨_, rfl⟩
  rw [← hA] at HW HC ⊢
  clear H hN hE hf8 hf40 hdd hrg hb hp hA
  by_cases h0 : E = 0
  · subst h0
    clear HS1 HS2 HC H8
    cases f40 with
    | true =>
      have HF := hide (unhide HS3 rfl rfl)
      clear HS4 HS5 HD
      go_enter Tryz.func33, Tryz.ntmps33
      go_wp2_with fail
      refine (unhide HW).mono ?_
      rintro e w1 ⟨rfl, b1⟩
      have HB1 := hide b1
      clear b1
      go_wp2_with fail
      refine (unhide H40 _).mono ?_
      rintro e w2 ⟨rfl, hw2⟩
      subst hw2
      go_wp2_with fail
      go_ret2
      exact ⟨_, _, rfl, hide ⟨s, unhide HF, unhide HG _ (unhide HB1)⟩⟩
    | false =>
      cases dd with
      | true =>
        have HF := hide (unhide HS4 rfl rfl rfl)
        clear HS3 HS4 HS5
        go_enter Tryz.func33, Tryz.ntmps33
        go_wp2_with fail
        refine (unhide HW).mono ?_
        rintro e w1 ⟨rfl, b1⟩
        have HB1 := hide b1
        clear b1
        go_wp2_with fail
        refine (unhide H40 _).mono ?_
        rintro e w2 ⟨rfl, hw2⟩
        subst hw2
        go_wp2_with fail
        refine (unhide HD _ (unhide HB1)).mono ?_
        rintro e w3 ⟨rfl, b3⟩
        have HB3 := hide b3
        clear b3
        go_wp2_with fail
        go_ret2
        exact ⟨_, _, rfl, hide ⟨s, unhide HF, unhide HG _ (unhide HB3)⟩⟩
      | false =>
        have HF := hide (unhide HS5 rfl rfl rfl)
        clear HS3 HS4 HS5
        go_enter Tryz.func33, Tryz.ntmps33
        go_wp2_with fail
        refine (unhide HW).mono ?_
        rintro e w1 ⟨rfl, b1⟩
        have HB1 := hide b1
        clear b1
        go_wp2_with fail
        refine (unhide H40 _).mono ?_
        rintro e w2 ⟨rfl, hw2⟩
        subst hw2
        go_wp2_with fail
        refine (unhide HD _ (unhide HB1)).mono ?_
        rintro e w3 ⟨rfl, b3⟩
        have HB3 := hide b3
        clear b3
        go_wp2_with fail
        go_ret2
        exact ⟨_, _, rfl, hide ⟨s, unhide HF, unhide HG _ (unhide HB3)⟩⟩
  · clear HS3 HS4 HS5 HD H40
    by_cases h23 : E = 23
    · subst h23
      cases f8 with
      | true =>
        have HF := hide (fun N E s' => unhide HS1 N E s' rfl rfl)
        clear HS1 HS2 h0
        go_enter Tryz.func33, Tryz.ntmps33
        go_wp2_with fail
        refine (unhide HW).mono ?_
        rintro e w1 ⟨rfl, b1⟩
        have HC1 := hide (unhide HC _ b1)
        clear b1
        go_wp2_with fail
        refine (unhide H8 _).mono ?_
        rintro e w2 ⟨rfl, hw2⟩
        subst hw2
        go_wp2_with fail
        refine (unhide HC1).mono ?_
        rintro e w3 ⟨N2, E2, rfl, HX⟩
        go_wp2_with fail
        go_ret2
        obtain ⟨s', e3, e4⟩ := unhide HX
        exact ⟨_, _, rfl, hide ⟨s', unhide HF _ _ _ e3, e4⟩⟩
      | false =>
        have HF := hide (unhide HS2 (by decide) (fun _ => rfl))
        clear HS1 HS2 h0
        go_enter Tryz.func33, Tryz.ntmps33
        go_wp2_with fail
        refine (unhide HW).mono ?_
        rintro e w1 ⟨rfl, b1⟩
        have HB1 := hide b1
        clear b1
        go_wp2_with fail
        refine (unhide H8 _).mono ?_
        rintro e w2 ⟨rfl, hw2⟩
        subst hw2
        go_wp2_with fail
        go_ret2
        exact ⟨_, _, rfl, hide ⟨s, unhide HF, unhide HG _ (unhide HB1)⟩⟩
    · have HF := hide (unhide HS2 h0 (fun h => absurd h h23))
      have hE1 : (E != 0) = true := by simpa using h0
      have hE2 : (E == 23) = false := by rw [beq_eq_false_iff_ne]; exact h23
      clear HS1 HS2 h0 h23
      go_enter Tryz.func33, Tryz.ntmps33
      go_wp2_with fail
      refine (unhide HW).mono ?_
      rintro e w1 ⟨rfl, b1⟩
      have HB1 := hide b1
      clear b1
      go_wp2_with fail
      go_ret2
      exact ⟨_, _, rfl, hide ⟨s, unhide HF, unhide HG _ (unhide HB1)⟩⟩
/-- Flags that are none. -/
def badF (fl : Int) : Bool := (bits .and .i64 fl 3 == 0) || (bits .andNot .i64 fl 63 != 0)
def opS (s : NS) (N fl : Int) : NS := { (if hasF fl 18 then ncutS s N 0 else s) with T := holdT (if hasF fl 18 then ncutS s N 0 else s).T N }
/-- What Open answers and leaves. -/
inductive OpSp (s : NS) (nb : Nat) (d : Int) (p : List UInt8) (fl : Int) : Option Fl → Int → NS → Prop
  | arg : badF fl = true → OpSp s nb d p fl none 1 s
  | err (N E : Int) (s' : NS) : badF fl = false → FiSp s nb d p fl N E s' → E ≠ 0 → OpSp s nb d p fl none E s'
  | ok (N : Int) (s' : NS) : badF fl = false → FiSp s nb d p fl N 0 s' → OpSp s nb d p fl (some ⟨false, N, 0, fl⟩) 0 (opS s' N fl)
set_option maxRecDepth 20000 in
set_option maxHeartbeats 4000000 in
theorem fopen_any {w : World} {f q nb n : Nat} {B : Bas} {Y : Nat → Prop} {s : NS} {l : List (Nat × Fl)} (H : GX w f q Y s nb n B l) (hnn : n ≤ 9000) (d : Int) (p : List UInt8) (fl : Int) (hb : -9223372036854775808 ≤ d ∧ d ≤ 9223372036854775807) (hp : p.length ≤ 100000) : Calls Tryz.prog 12 #[.pointer (some ⟨f, 0, none⟩), .int .i64 d, .string (BA p), .int .i64 fl] w fun e w' => ∃ o E pt, e = .returned (.tuple #[.pointer pt, .int .i64 E]) ∧ Hid (∃ s', OpSp s nb d p fl o E s' ∧ ((o = none ∧ pt = none ∧ GX w' f q Y s' nb (n + 3) B l) ∨ ∃ x b Y', o = some x ∧ pt = some ⟨b, 0, none⟩ ∧ GX w' f q Y' s' nb (n + 3) B (l ++ [(b, x)]) ∧ (∀ k, Y' k → B.tn k) ∧ B.tn b)) := by
  have HN := hide (fnil_no H.fx)
  have HF := hide (ffind_any H (by omega) d p fl hb hp)
  have H18 : Hid (∀ W, Calls Tryz.prog 34 #[.int .i64 fl, .int .i64 18] W fun e w' => e = .returned (.bool (hasF fl 18)) ∧ w' = W) := hide (fun W => has_any fl 18 W)
  have HC : Hid (∀ W s' N E, FiSp s nb d p fl N E s' → GX W f q Y s' nb (n + 1) B l → Calls Tryz.prog 35 #[.pointer (some ⟨f, 0, none⟩), .int .i64 N, .int .i64 0] W fun e w' => ∃ E, e = .returned (.int .i64 E) ∧ Hid (GX w' f q Y (ncutS s' N 0) nb (n + 2) B l)) := hide (fun W s' N E h1 h2 => (fcut_any h2.fx.rebased N 0 (by have := fi_rg H.fx.nd.ok h1; omega)).mono (fun e w' h => ⟨_, h.1, hide (h2.tree (unhide h.2))⟩))
  have HH : Hid (∀ W s' N, 0 ≤ N ∧ N ≤ 1024 → GX W f q Y s' nb (n + 2) B l → Calls Tryz.prog 36 #[.pointer (some ⟨f, 0, none⟩), .int .i64 N] W fun e w' => ∃ E, e = .returned (.int .i64 E) ∧ Hid (GX w' f q Y { s' with T := holdT s'.T N } nb (n + 3) B l)) := hide (fun W s' N h1 h2 => (nhold_any h2.fx.rebased (by omega) N (by omega)).mono (fun e w' h => ⟨_, h.1, hide (h2.tree (unhide h.2))⟩))
  have HRG : Hid (∀ N E s', FiSp s nb d p fl N E s' → 0 ≤ N ∧ N ≤ 1024) := hide (fun N E s' h => fi_rg H.fx.nd.ok h)
  have HSZ : Hid (∀ W s', GX W f q Y s' nb (n + 3) B l → ∀ N, 0 ≤ N ∧ N ≤ 1024 → ∃ Y', GX (W.alloc (.cells (flV f ⟨false, N, 0, fl⟩) 86)) f q Y' s' nb (n + 3) B (l ++ [(W.heap.size, ⟨false, N, 0, fl⟩)]) ∧ (∀ k, Y' k → B.tn k) ∧ B.tn W.heap.size) := hide (fun W s' h N hN => by
    have h2 := h.more (x := ⟨false, N, 0, fl⟩) ⟨hN, by show (0 : Int) ≤ 0 ∧ (0 : Int) ≤ 100000; decide⟩
    exact ⟨_, h2, h2.fx.nd.yb, (h2.out l.length W.heap.size ⟨false, N, 0, fl⟩ (by simp)).2.1⟩)
  have HA : Hid (badF fl = true → OpSp s nb d p fl none 1 s) := hide .arg
  have HEr : Hid (∀ N E s', badF fl = false → FiSp s nb d p fl N E s' → E ≠ 0 → OpSp s nb d p fl none E s') := hide (fun N E s' a b c => .err N E s' a b c)
  have HOk : Hid (∀ N s', badF fl = false → FiSp s nb d p fl N 0 s' → OpSp s nb d p fl (some ⟨false, N, 0, fl⟩) 0 (opS s' N fl)) := hide (fun N s' a b => .ok N s' a b)
  have HGS : Hid (GX w f q Y s nb (n + 3) B l) := hide (H.mono (by omega))
  have HM1 : Hid (∀ W s', GX W f q Y s' nb (n + 1) B l → GX W f q Y s' nb (n + 3) B l ∧ GX W f q Y s' nb (n + 2) B l) := hide (fun W s' h => ⟨h.mono (by omega), h.mono (by omega)⟩)
  obtain ⟨A, hA⟩ : ∃ A, A = BA p := ⟨_, rfl⟩
  rw [← hA] at HF ⊢
  have HOPS : Hid (∀ s' N, (hasF fl 18 = true → opS s' N fl = { ncutS s' N 0 with T := holdT (ncutS s' N 0).T N }) ∧ (hasF fl 18 = false → opS s' N fl = { s' with T := holdT s'.T N })) := hide (fun s' N => ⟨fun h => by unfold opS; rw [if_pos h], fun h => by unfold opS; rw [h]; rfl⟩)
  clear H hb hp hA
  have hbad : badF fl = ((bits .and .i64 fl 3 == 0) || (bits .andNot .i64 fl 63 != 0)) := rfl
  obtain ⟨f18, hf18⟩ : ∃ b, b = hasF fl 18 := ⟨_, rfl⟩
  rw [← hf18] at H18 HOPS
  clear hf18
  cases h3 : (bits .and .i64 fl 3 == 0) with
  | true =>
    have HX := hide (unhide HA (by rw [hbad, h3]; first | rfl | (rw [hn]; rfl)))
    clear HEr HOk HF HC HH HRG HSZ H18 HM1 HOPS hbad
    go_enter Tryz.func12, Tryz.ntmps12
    go_wp2_with fail
    refine (unhide HN).mono ?_
    rintro e w1 ⟨rfl, hw1⟩
    subst hw1
    go_wp2_with fail
    go_ret2
    exact ⟨none, 1, none, rfl, hide ⟨s, unhide HX, .inl ⟨rfl, rfl, unhide HGS⟩⟩⟩
  | false =>
    cases hn : (bits .andNot .i64 fl 63 != 0) with
    | true =>
      have HX := hide (unhide HA (by rw [hbad, h3]; first | rfl | (rw [hn]; rfl)))
      clear HEr HOk HF HC HH HRG HSZ H18 HM1 HOPS hbad
      go_enter Tryz.func12, Tryz.ntmps12
      go_wp2_with fail
      refine (unhide HN).mono ?_
      rintro e w1 ⟨rfl, hw1⟩
      subst hw1
      go_wp2_with fail
      go_ret2
      exact ⟨none, 1, none, rfl, hide ⟨s, unhide HX, .inl ⟨rfl, rfl, unhide HGS⟩⟩⟩
    | false =>
      have HBF : Hid (badF fl = false) := hide (by rw [hbad, h3, hn]; rfl)
      clear hbad HA
      go_enter Tryz.func12, Tryz.ntmps12
      go_wp2_with fail
      refine (unhide HN).mono ?_
      rintro e w1 ⟨rfl, hw1⟩
      subst hw1
      go_wp2_with fail
      refine (unhide HF).mono ?_
      rintro e w2 ⟨N, E, rfl, HX⟩
      obtain ⟨s1, e1, e2⟩ := unhide HX
      have HE1 := hide e1
      have HE2 := hide e2
      have HR := unhide HRG N E s1 e1
      clear HX e1 e2 HF
      by_cases hE : E = 0
      · subst hE
        have HOP := hide (unhide HOk N s1 (unhide HBF) (unhide HE1))
        have HO := hide (unhide HOPS s1 N)
        clear HOk HEr HGS HOPS HBF
        cases f18 with
        | true =>
          go_wp2_with fail
          refine (unhide H18 _).mono ?_
          rintro e w3 ⟨rfl, hw3⟩
          subst hw3
          go_wp2_with fail
          refine (unhide HC _ _ N _ (unhide HE1) (unhide HE2)).mono ?_
          rintro e w4 ⟨E4, rfl, HG4⟩
          go_wp2_with fail
          refine (unhide HH _ _ N HR (unhide HG4)).mono ?_
          rintro e w5 ⟨E5, rfl, HG5⟩
          have HG6 := hide (unhide HSZ w5 _ (unhide HG5) N HR)
          go_wp2_with fail
          go_ret2
          obtain ⟨Y', g1, g2, g3⟩ := unhide HG6
          refine ⟨_, _, _, rfl, hide ⟨_, unhide HOP, .inr ⟨_, _, Y', rfl, rfl, ?_, g2, g3⟩⟩⟩
          rw [(unhide HO).1 trivial]
          exact g1
        | false =>
          have HG4 := hide (unhide HM1 _ _ (unhide HE2)).2
          go_wp2_with fail
          refine (unhide H18 _).mono ?_
          rintro e w3 ⟨rfl, hw3⟩
          subst hw3
          go_wp2_with fail
          refine (unhide HH _ _ N HR (unhide HG4)).mono ?_
          rintro e w5 ⟨E5, rfl, HG5⟩
          have HG6 := hide (unhide HSZ w5 _ (unhide HG5) N HR)
          go_wp2_with fail
          go_ret2
          obtain ⟨Y', g1, g2, g3⟩ := unhide HG6
          refine ⟨_, _, _, rfl, hide ⟨_, unhide HOP, .inr ⟨_, _, Y', rfl, rfl, ?_, g2, g3⟩⟩⟩
          rw [(unhide HO).2 trivial]
          exact g1
      · have HOP := hide (unhide HEr N E s1 (unhide HBF) (unhide HE1) hE)
        have HG3 := hide (unhide HM1 _ _ (unhide HE2)).1
        have hE1 : (E != 0) = true := by simpa using hE
        clear HOk HEr HGS HOPS HBF HC HH HSZ hE HRG HM1 H18
        go_wp2_with fail
        go_ret2
        exact ⟨none, E, none, rfl, hide ⟨s1, unhide HOP, .inl ⟨rfl, rfl, unhide HG3⟩⟩⟩
theorem made_is2 {s s' : NS} {nb : Nat} {d kind N E : Int} {p : List UInt8} (h : MadeSp s nb d p kind [] N E s') (h1 : (roomN s d p).2.2 = 0) (h2 : makeE s.T kind = 0) : N = makeN s.T kind ∧ E = 0 ∧ s' = ⟨tieT (makeT s.T kind) (makeN s.T kind), putL s.L ⟨(roomN s d p).1, (roomN s d p).2.1, makeN s.T kind⟩, parU s.par (makeN s.T kind) (roomN s d p).1⟩ := by
  obtain ⟨a1, a2, a3⟩ := make_all h2
  have a4 : ndAt (makeT s.T kind) (makeN s.T kind) = some (nd0 kind.toNat) := by rw [a3, if_pos rfl]
  have hx : ndAt (tieT (makeT s.T kind) (makeN s.T kind)) (makeN s.T kind) = some (tieN (nd0 kind.toNat)) := by
    unfold tieT
    rw [a4]
    dsimp only
    rw [set_nd a4, if_pos rfl]
  have hd : MadeSp s nb d p kind [] (makeN s.T kind) 0 ⟨tieT (makeT s.T kind) (makeN s.T kind), putL s.L ⟨(roomN s d p).1, (roomN s d p).2.1, makeN s.T kind⟩, parU s.par (makeN s.T kind) (roomN s d p).1⟩ := .done 0 0 _ _ h1 h2 rfl (.empty _ hx (Int.le_refl _) rfl) (by decide)
  exact h.uniq hd
theorem op_made {s s' : NS} {nb : Nat} {d fl E : Int} {p : List UInt8} {o : Option Fl} (h : OpSp s nb d p fl o E s') (hb : badF fl = false) (hw : (walkN s d p true).2 = 23) (h8 : hasF fl 8 = true) (hr : (roomN s d p).2.2 = 0) (hm : makeE s.T 1 = 0) : E = 0 ∧ o = some ⟨false, makeN s.T 1, 0, fl⟩ ∧ s' = opS ⟨tieT (makeT s.T 1) (makeN s.T 1), putL s.L ⟨(roomN s d p).1, (roomN s d p).2.1, makeN s.T 1⟩, parU s.par (makeN s.T 1) (roomN s d p).1⟩ (makeN s.T 1) fl := by
  have key : ∀ N E s1, FiSp s nb d p fl N E s1 → N = makeN s.T 1 ∧ E = 0 ∧ s1 = ⟨tieT (makeT s.T 1) (makeN s.T 1), putL s.L ⟨(roomN s d p).1, (roomN s d p).2.1, makeN s.T 1⟩, parU s.par (makeN s.T 1) (roomN s d p).1⟩ := by
    intro N E s1 h
    cases h with
    | mk N' E' _ h1 h2 h3 =>
      obtain ⟨e1, e2, e3⟩ := made_is2 h3 hr hm
      subst e2
      exact ⟨e1, rfl, e3⟩
    | no h1 h2 => rw [h2 hw] at h8; cases h8
    | there h1 h2 => rw [hw] at h1; cases h1
    | dir h1 h2 => rw [hw] at h1; cases h1
    | ok h1 h2 => rw [hw] at h1; cases h1
  cases h with
  | arg h => rw [hb] at h; cases h
  | err N E s1 h1 h2 h3 => exact absurd (key N E _ h2).2.1 h3
  | ok N s1 h1 h2 =>
    obtain ⟨e1, _, e3⟩ := key N 0 s1 h2
    subst e1
    subst e3
    exact ⟨rfl, rfl, rfl⟩
theorem op_found {s s' : NS} {nb : Nat} {d fl E N : Int} {p : List UInt8} {o : Option Fl} (h : OpSp s nb d p fl o E s') (hb : badF fl = false) (hw : walkN s d p true = (N, 0)) (h40 : hasF fl 40 = false) (hd : isD s N = false) : E = 0 ∧ o = some ⟨false, N, 0, fl⟩ ∧ s' = opS s N fl := by
  have key : ∀ N' E s1, FiSp s nb d p fl N' E s1 → N' = N ∧ E = 0 ∧ s1 = s := by
    intro N' E s1 h
    cases h with
    | mk N' E' _ h1 h2 h3 => rw [hw] at h1; cases h1
    | no h1 h2 => rw [hw] at h1; exact absurd rfl h1
    | there h1 h2 => rw [h40] at h2; cases h2
    | dir h1 h2 h3 => rw [hw] at h3; rw [show ((N, (0 : Int)) : Int × Int).1 = N from rfl, hd] at h3; cases h3
    | ok h1 h2 => rw [hw]; exact ⟨rfl, rfl, rfl⟩
  cases h with
  | arg h => rw [hb] at h; cases h
  | err N E s1 h1 h2 h3 => exact absurd (key N E _ h2).2.1 h3
  | ok N s1 h1 h2 =>
    obtain ⟨e1, _, e3⟩ := key N 0 s1 h2
    subst e1
    subst e3
    exact ⟨rfl, rfl, rfl⟩
theorem op_there {s s' : NS} {nb : Nat} {d fl E N : Int} {p : List UInt8} {o : Option Fl} (h : OpSp s nb d p fl o E s') (hb : badF fl = false) (hw : walkN s d p true = (N, 0)) (h40 : hasF fl 40 = true) : E = 22 ∧ o = none ∧ s' = s := by
  have key : ∀ N' E s1, FiSp s nb d p fl N' E s1 → E = 22 ∧ s1 = s := by
    intro N' E s1 h
    cases h with
    | mk N' E' _ h1 h2 h3 => rw [hw] at h1; cases h1
    | no h1 h2 => rw [hw] at h1; exact absurd rfl h1
    | there h1 h2 => exact ⟨rfl, rfl⟩
    | dir h1 h2 h3 => rw [h40] at h2; cases h2
    | ok h1 h2 => rw [h40] at h2; cases h2
  cases h with
  | arg h => rw [hb] at h; cases h
  | err N E s1 h1 h2 h3 =>
    obtain ⟨e1, e2⟩ := key N E _ h2
    exact ⟨e1, rfl, e2⟩
  | ok N s1 h1 h2 => exact absurd (key N 0 s1 h2).1 (by decide)

end Go.Proofs.YtnpeiibecihleaaGreatDoor

/- THE FRAME OF A LAW: from 'the call returns true and writes nothing that was there' to the row's step, over any program; the world's shape and what the listed variables hold are handed to the walk. -/
namespace Go.Proofs.YtnpeiibecihleaaGreatDoor
open Go.ChangeShapes Go.WideShapes Go.ChangeAt Go.RowKit
variable {H : Type} {enc : TypeId × Value → H}

/-- All arguments read behind the call as they read before. -/
theorem trodAll_below {P : Program} (hl : laidOutB P = true) {W W' : World} (hb : Below W.heap.size W W') :
    ∀ (ts : List TypeId) (vs : List Value) (ds : List (DataW H)) (ps : List MemPlace), (∀ t ∈ ts, P.readableRec t = true ∧ t < P.types.size) →
      DataW.TrodAll enc P W 0 (fun _ => true) true ts vs ds ps → DataW.TrodAll enc P W' 0 (fun b => decide (b < W.heap.size)) true ts vs ds ps
  | [], vs, ds, ps, _, h => by
    obtain ⟨rfl, rfl, rfl⟩ := trodAll_nil h
    exact trodAll_mk0
  | t :: ts, vs, ds, ps, ht, h => by
    obtain ⟨v, vs', d, ds', p, q, rfl, rfl, rfl, h0, r0⟩ := trodAll_cons h
    have k := ht t (by simp)
    have lt0 : ∀ x ∈ p, x.block < W.heap.size := by obtain ⟨m, hm⟩ := h0; exact DataW.trod_lt m _ _ _ hm
    exact trodAll_cons_mk (Below.trod hl k.1 k.2 h0 hb lt0) (trodAll_below hl hb ts vs' ds' q (fun u hu => ht u (by simp [hu])) r0)

theorem law_lifted {C : Checked} {os : Os} {f : FuncId} {fn : Func} {s : ChangeSpec} {L : List (String × DataW Unit)} {tb : TypeId}
    (own : ownKnob C.prog.godebug = none) (started : os.Started) (noInit : C.prog.inits.idxOf? f = none) (hfn : C.prog.funcs[f]? = some fn)
    (hl : laidOutB C.prog = true) (hvars : s.vars = []) (hread : ∀ t ∈ fn.params.toList, C.prog.readableRec t = true ∧ t < C.prog.types.size)
    (hres : fn.resultTypes = #[tb]) (hbool : C.prog.underlying tb = some .bool)
    (hspec : ∀ ds : List (DataW H), ds.length = fn.params.toList.length → s.fn H ds = { results := [.lit (.bool true)], args := ds })
    (witness : ∃ (w : World) (tape : Tape) (i : Input), w.os = os ∧ (w.forCall tape i).Shaped C.prog ∧ i.vars = [] ∧ Input.okWide C.prog (w.forCall tape i) .any w.heap.size f i ∧
      ((s.pre enc C.prog fn [] false (w.forCall tape i).memory i.args ∧ laidMetH C.prog L (w.forCall tape i).memory) ∧ sizedMet enc C.prog fn (OpenSpec.ofChange s) false (w.forCall tape i).memory i.args) ∧ Assume.holds {} C.prog (lone (Frame.enter C.prog f i.args .normal) [] (w.forCall tape i)))
    (contract : ∀ (W : World) (base : Nat) (args : Array Value) (ds : List (DataW H)) (ps : List MemPlace),
      (∀ (j : Nat) t v, fn.params[j]? = some t → args[j]? = some v → Value.okWide C.prog W .any base t v) →
      DataW.TrodAll enc C.prog W 0 (fun _ => true) true fn.params.toList args.toList ds ps →
      laidMetH C.prog L W → W.ShapedOpen C.prog →
      Calls C.prog f args W fun e W' => e = .returned (.bool true) ∧ Below W.heap.size W W') :
    ReturnsInHanded {} C os f .any (fun w args => (s.pre enc C.prog fn [] false w args ∧ laidMetH C.prog L w) ∧ sizedMet enc C.prog fn (OpenSpec.ofChange s) false w args) (s.post enc C.prog fn false true false false) := by
  refine returnsInHanded_of_calls own started noInit witness ?_
  intro w tape i _ hsh _ hok hpre _
  obtain ⟨_, _, _, fn', hfn', _, _, _, _, hval⟩ := hok
  obtain rfl : fn' = fn := Option.some.inj (hfn'.symm.trans hfn)
  obtain ⟨⟨⟨ds, gs, before, hw, _⟩, hx⟩, _⟩ := hpre
  have hw' := DataW.Whole.of_heap (w' := w.forCall tape i) (by rfl) hw
  have hW := hw'
  obtain ⟨p, q, hA, hV, _, _, _⟩ := hw'
  rw [hvars] at hV
  obtain ⟨rfl, rfl⟩ := trodVars_none hV
  have hlen : ∀ (ts : List TypeId) (vs : List Value) (ds : List (DataW H)) (ps : List MemPlace), DataW.TrodAll enc C.prog (w.forCall tape i) 0 (fun _ => true) true ts vs ds ps → ds.length = ts.length := by
    intro ts
    induction ts with
    | nil => intro vs ds ps h; obtain ⟨_, rfl, _⟩ := trodAll_nil h; rfl
    | cons t ts ih =>
      intro vs ds ps h
      obtain ⟨v, vs', d, ds', p, q, _, rfl, _, _, r0⟩ := trodAll_cons h
      simp [ih _ _ _ r0]
  refine (contract (w.forCall tape i) w.heap.size i.args ds p hval hA (hx.of_heap (by rfl)) hsh).mono fun e W' ⟨he, bel⟩ => ?_
  subst he
  have hs := hspec (ds ++ []) (by rw [List.append_nil]; exact hlen _ _ _ _ hA)
  refine ChangeSpec.post_blind (v := .bool true) ⟨ds, [], before, [], p, [], hW, ?_, ?_, ?_, bel.frame _, fun h => by cases h⟩
  · rw [hs, hres]
    exact trodAll_mk1 (shut_bool hbool _)
  · rw [hs]
    simp only [List.append_nil]
    exact trodAll_below hl bel _ _ _ _ hread hA
  · rw [hs, hvars]
    rfl

end Go.Proofs.YtnpeiibecihleaaGreatDoor

/- What all laws of this seat (stage 14) share: the frame, the listed variables, the arguments that came in. -/
namespace Go.Proofs.YtnpeiibecihleaaGreatDoor
open Go.ChangeShapes Go.WideShapes Go.ChangeAt Go.RowKit

/-- The listed variables of the rows: all, and those of NamesTree. -/
def seatLaid : List (String × DataW Unit) := [("math/bits.deBruijn32tab", Rows.laid_math_bits_deBruijn32tab), ("math/bits.deBruijn64tab", Rows.laid_math_bits_deBruijn64tab), ("internal/strconv.uint64pow10", Rows.laid_internal_strconv_uint64pow10), ("unicode/utf8.acceptRanges", Rows.laid_unicode_utf8_acceptRanges), ("unicode/utf8.first", Rows.laid_unicode_utf8_first)]
def seatLaid2 : List (String × DataW Unit) := [("unicode/utf8.acceptRanges", Rows.laid_unicode_utf8_acceptRanges), ("unicode/utf8.first", Rows.laid_unicode_utf8_first)]
theorem own : ownKnob Tryz.prog.godebug = none := by kernel_rfl
theorem laidOut : laidOutB Tryz.prog = true := by kernel_rfl
theorem read_of {P : Program} {ts : List TypeId} (h : (ts.all fun t => P.readableRec t && decide (t < P.types.size)) = true) : ∀ t ∈ ts, P.readableRec t = true ∧ t < P.types.size := by
  intro t ht
  have := List.all_eq_true.1 h t ht
  simpa using this
theorem door_met (os : Os) (args : Array Value) : laidMetH Tryz.prog seatLaid ((World.laidAll Tryz.prog os seatLaid).forCall (fun _ _ => 0) ⟨#[], args, []⟩).memory := by
  rw [MakeChecks.laidMetH_plain _ _ _ (by kernel_rfl)]
  exact laidMet_laidAll _ (by kernel_rfl) (by kernel_rfl)
theorem door_met2 (os : Os) (args : Array Value) : laidMetH Tryz.prog seatLaid2 ((World.laidAll Tryz.prog os seatLaid2).forCall (fun _ _ => 0) ⟨#[], args, []⟩).memory := by
  rw [MakeChecks.laidMetH_plain _ _ _ (by kernel_rfl)]
  exact laidMet_laidAll _ (by kernel_rfl) (by kernel_rfl)
theorem pow_eq : (Rows.laid_internal_strconv_uint64pow10 : DataW Unit) = Lib.tabData .u64 Lib.pow10Tab := by kernel_rfl
theorem gP : Tryz.prog.globalNamed "internal/strconv.uint64pow10" = some 1 := by kernel_rfl
theorem tP : (Tryz.prog.globals[1]?).map (·.type) = some 264 := by kernel_rfl
theorem cTab : Tryz.prog.cellsOf 264 = 20 := by kernel_rfl
theorem cU64 : Tryz.prog.cellsOf 241 = 1 := by kernel_rfl
theorem pow_of {W : World} (hL : laidMetH Tryz.prog seatLaid W) : PowB (Bas.of W) := by
  rw [MakeChecks.laidMetH_plain _ _ _ (by kernel_rfl)] at hL
  have h3 := laidMet.tail (laidMet.tail hL)
  rw [pow_eq] at h3
  exact Lib.tabIs_of_head gP tP Tryz.underlying264 Tryz.underlying241 cU64 cTab h3
theorem max_of (W : World) (h : W.ShapedOpen Tryz.prog) : ∃ m : Int, W.cell? ⟨0, 0, none⟩ = some (.int .i64 m) :=
  Go.Proofs.cell_of_shapedOpen_int (zero := #[.int .i64 0]) (t := 3) h (of_decide_eq_true (by kernel_rfl)) (by kernel_rfl) rfl (by kernel_rfl) (by kernel_rfl) Tryz.underlying3
theorem env_of {W : World} (h : W.ShapedOpen Tryz.prog) : EnvB W (Bas.of W) := ⟨max_of W h, Below.refl _ _, grownS_of_below (Below.refl _ _), fun _ h => h⟩
theorem cells9 : Tryz.prog.cellsOf 9 = 1 := by kernel_rfl
theorem cells3 : Tryz.prog.cellsOf 3 = 1 := by kernel_rfl
theorem cell_lt {W : World} {p : Addr} {v : Value} (h : W.cell? p = some v) : p.block < W.heap.size := by
  rcases Nat.lt_or_ge p.block W.heap.size with h' | h'
  · exact h'
  · unfold World.cell? at h
    rw [Array.getElem?_eq_none h'] at h
    cases h
theorem add_at2 (b o j : Nat) : ((⟨b, o, none⟩ : Addr).add j) = ⟨b, o + j, none⟩ := by
  by_cases h : j = 0
  · subst h; simp [Addr.add]
  · simp [Addr.add, h]
variable {H : Type} {enc : TypeId × Value → H}
theorem cells4 : Tryz.prog.cellsOf 4 = 1 := by kernel_rfl
/-- A slice of texts. -/
def SRow (w : World) (v : Value) (l : List (List UInt8)) : Prop := ∃ ad cap, v = .slice ad l.length cap ∧ ∀ (i : Nat) (x : List UInt8), l[i]? = some x → ∃ g o, ad = some ⟨g, o, none⟩ ∧ g < w.heap.size ∧ w.cell? ⟨g, o + i, none⟩ = some (.string (BA x))
theorem SRow.below {w w' : World} {v : Value} {l : List (List UInt8)} (h : SRow w v l) (hb : Below w.heap.size w w') : SRow w' v l := by
  obtain ⟨ad, cap, rfl, h⟩ := h
  refine ⟨ad, cap, rfl, fun i x hi => ?_⟩
  obtain ⟨g, o, rfl, hg, c0⟩ := h i x hi
  exact ⟨g, o, rfl, Nat.lt_of_lt_of_le hg hb.size, (hb.cell (p := ⟨g, _, none⟩) hg).trans c0⟩
theorem texts_of {W : World} {v : Value} {d : DataW H} {p : List MemPlace} (hok : ∃ a len cap, v = .slice a len cap) (h : DataW.Trod enc Tryz.prog W 0 (fun _ => true) true 56 v d p) : ∃ l, SRow W v l ∧ l.length ≤ maxLen := by
  obtain ⟨a0, len0, cap0, rfl⟩ := hok
  obtain ⟨fuel, h⟩ := h
  rcases Deep.open_slice Tryz.underlying56 h with ⟨h0, _⟩ | ⟨a, len, cap, m, n, D, Pl, hcs, _, hl, hm, hmm, _, hx⟩
  · simp [Value.cells] at h0
    obtain ⟨rfl, rfl, rfl⟩ := h0
    exact ⟨[], ⟨none, 0, rfl, fun i x hi => by simp at hi⟩, Nat.zero_le _⟩
  · simp [Value.cells] at hcs
    obtain ⟨rfl, rfl, rfl⟩ := hcs
    rw [if_pos rfl] at hmm
    subst hmm
    by_cases h0 : len0 = 0
    · subst h0
      exact ⟨[], ⟨some a, m, rfl, fun i x hi => by simp at hi⟩, Nat.zero_le _⟩
    have each : ∀ i, ∃ y : List UInt8, i < len0 → W.cell? (a.add (i * 1)) = some (.string (BA y)) := by
      intro i
      by_cases hi : i < len0
      · obtain ⟨cs, h1, h2⟩ := hx i (by omega)
        rw [cells9] at h1
        obtain ⟨_, hlen, hcell⟩ := World.cells?_some h1
        match cs, hlen with
        | [v0], _ =>
          have e0 := hcell 0 (by omega)
          rw [Deep.add_add] at e0
          obtain ⟨z0, hz0, _⟩ := DataW.trod_string Tryz.underlying9 h2
          simp at hz0
          subst hz0
          exact ⟨z0.data.toList, fun _ => by simpa [BA_of] using e0⟩
      · exact ⟨[], fun h => absurd h hi⟩
    obtain ⟨R, hR⟩ : ∃ R : Nat → List UInt8, ∀ i, i < len0 → W.cell? (a.add (i * 1)) = some (.string (BA (R i))) := ⟨fun i => Classical.choose (each i), fun i => Classical.choose_spec (each i)⟩
    obtain ⟨b, o, spot⟩ := a
    have hspot : spot = none := by simpa [Addr.add] using World.cell?_spot (hR 0 (by omega))
    subst hspot
    refine ⟨(List.range len0).map R, ⟨some ⟨b, o, none⟩, m, by simp, fun j x hj => ?_⟩, by simp; omega⟩
    rw [List.getElem?_map] at hj
    obtain ⟨y, hy, rfl⟩ := Option.map_eq_some_iff.1 hj
    obtain ⟨hj', e⟩ := List.getElem?_eq_some_iff.1 hy
    simp at hj' e
    subst e
    have := hR j hj'
    rw [add_at2, Nat.mul_one] at this
    exact ⟨b, o, rfl, cell_lt this, this⟩
/-- A slice of ints. -/
def IRow (w : World) (v : Value) (l : List Int) : Prop := ∃ ad cap, v = .slice ad l.length cap ∧ ∀ (i : Nat) (x : Int), l[i]? = some x → (∃ g o, ad = some ⟨g, o, none⟩ ∧ g < w.heap.size ∧ w.cell? ⟨g, o + i, none⟩ = some (.int .i64 x)) ∧ -9223372036854775808 ≤ x ∧ x ≤ 9223372036854775807
theorem ints_of {W : World} {v : Value} {d : DataW H} {p : List MemPlace} (hok : ∃ a len cap, v = .slice a len cap) (h : DataW.Trod enc Tryz.prog W 0 (fun _ => true) true 51 v d p) : ∃ l, IRow W v l ∧ l.length ≤ maxLen := by
  obtain ⟨a0, len0, cap0, rfl⟩ := hok
  obtain ⟨fuel, h⟩ := h
  rcases Deep.open_slice Tryz.underlying51 h with ⟨h0, _⟩ | ⟨a, len, cap, m, n, D, Pl, hcs, _, hl, hm, hmm, _, hx⟩
  · simp [Value.cells] at h0
    obtain ⟨rfl, rfl, rfl⟩ := h0
    exact ⟨[], ⟨none, 0, rfl, fun i x hi => by simp at hi⟩, Nat.zero_le _⟩
  · simp [Value.cells] at hcs
    obtain ⟨rfl, rfl, rfl⟩ := hcs
    rw [if_pos rfl] at hmm
    subst hmm
    by_cases h0 : len0 = 0
    · subst h0
      exact ⟨[], ⟨some a, m, rfl, fun i x hi => by simp at hi⟩, Nat.zero_le _⟩
    have each : ∀ i, ∃ y : Int, i < len0 → W.cell? (a.add (i * 1)) = some (.int .i64 y) ∧ (Lit.int .i64 y).wf = true := by
      intro i
      by_cases hi : i < len0
      · obtain ⟨cs, h1, h2⟩ := hx i (by omega)
        rw [cells3] at h1
        obtain ⟨_, hlen, hcell⟩ := World.cells?_some h1
        match cs, hlen with
        | [v0], _ =>
          have e0 := hcell 0 (by omega)
          rw [Deep.add_add] at e0
          obtain ⟨z0, hz0, hz1, hz2⟩ := DataW.trod_int Tryz.underlying3 h2
          simp at hz0
          subst hz0
          exact ⟨z0, fun _ => ⟨by simpa using e0, hz2⟩⟩
      · exact ⟨0, fun h => absurd h hi⟩
    obtain ⟨R, hR⟩ : ∃ R : Nat → Int, ∀ i, i < len0 → W.cell? (a.add (i * 1)) = some (.int .i64 (R i)) ∧ (Lit.int .i64 (R i)).wf = true := ⟨fun i => Classical.choose (each i), fun i => Classical.choose_spec (each i)⟩
    obtain ⟨b, o, spot⟩ := a
    have hspot : spot = none := by simpa [Addr.add] using World.cell?_spot (hR 0 (by omega)).1
    subst hspot
    refine ⟨(List.range len0).map R, ⟨some ⟨b, o, none⟩, m, by simp, fun j x hj => ?_⟩, by simp; omega⟩
    rw [List.getElem?_map] at hj
    obtain ⟨y, hy, rfl⟩ := Option.map_eq_some_iff.1 hj
    obtain ⟨hj', e⟩ := List.getElem?_eq_some_iff.1 hy
    simp at hj' e
    subst e
    have := hR j hj'
    rw [add_at2, Nat.mul_one] at this
    exact ⟨⟨b, o, rfl, cell_lt this.1, this.1⟩, bounds_i64 this.2⟩
/-- A slice of bools. -/
def BRow (w : World) (v : Value) (l : List Bool) : Prop := ∃ ad cap, v = .slice ad l.length cap ∧ ∀ (i : Nat) (x : Bool), l[i]? = some x → ∃ g o, ad = some ⟨g, o, none⟩ ∧ g < w.heap.size ∧ w.cell? ⟨g, o + i, none⟩ = some (.bool x)
theorem BRow.below {w w' : World} {v : Value} {l : List Bool} (h : BRow w v l) (hb : Below w.heap.size w w') : BRow w' v l := by
  obtain ⟨ad, cap, rfl, h⟩ := h
  refine ⟨ad, cap, rfl, fun i x hi => ?_⟩
  obtain ⟨g, o, rfl, hg, c0⟩ := h i x hi
  exact ⟨g, o, rfl, Nat.lt_of_lt_of_le hg hb.size, (hb.cell (p := ⟨g, _, none⟩) hg).trans c0⟩
theorem IRow.below {w w' : World} {v : Value} {l : List Int} (h : IRow w v l) (hb : Below w.heap.size w w') : IRow w' v l := by
  obtain ⟨ad, cap, rfl, h⟩ := h
  refine ⟨ad, cap, rfl, fun i x hi => ?_⟩
  obtain ⟨⟨g, o, rfl, hg, c0⟩, h2⟩ := h i x hi
  exact ⟨⟨g, o, rfl, Nat.lt_of_lt_of_le hg hb.size, (hb.cell (p := ⟨g, _, none⟩) hg).trans c0⟩, h2⟩
theorem bools_of {W : World} {v : Value} {d : DataW H} {p : List MemPlace} (hok : ∃ a len cap, v = .slice a len cap) (h : DataW.Trod enc Tryz.prog W 0 (fun _ => true) true 67 v d p) : ∃ l, BRow W v l ∧ l.length ≤ maxLen := by
  obtain ⟨a0, len0, cap0, rfl⟩ := hok
  obtain ⟨fuel, h⟩ := h
  rcases Deep.open_slice Tryz.underlying67 h with ⟨h0, _⟩ | ⟨a, len, cap, m, n, D, Pl, hcs, _, hl, hm, hmm, _, hx⟩
  · simp [Value.cells] at h0
    obtain ⟨rfl, rfl, rfl⟩ := h0
    exact ⟨[], ⟨none, 0, rfl, fun i x hi => by simp at hi⟩, Nat.zero_le _⟩
  · simp [Value.cells] at hcs
    obtain ⟨rfl, rfl, rfl⟩ := hcs
    rw [if_pos rfl] at hmm
    subst hmm
    by_cases h0 : len0 = 0
    · subst h0
      exact ⟨[], ⟨some a, m, rfl, fun i x hi => by simp at hi⟩, Nat.zero_le _⟩
    have each : ∀ i, ∃ y : Bool, i < len0 → W.cell? (a.add (i * 1)) = some (.bool y) := by
      intro i
      by_cases hi : i < len0
      · obtain ⟨cs, h1, h2⟩ := hx i (by omega)
        rw [cells4] at h1
        obtain ⟨_, hlen, hcell⟩ := World.cells?_some h1
        match cs, hlen with
        | [v0], _ =>
          have e0 := hcell 0 (by omega)
          rw [Deep.add_add] at e0
          obtain ⟨z0, hz0, _⟩ := DataW.trod_bool Tryz.underlying4 h2
          simp at hz0
          subst hz0
          exact ⟨z0, fun _ => by simpa using e0⟩
      · exact ⟨false, fun h => absurd h hi⟩
    obtain ⟨R, hR⟩ : ∃ R : Nat → Bool, ∀ i, i < len0 → W.cell? (a.add (i * 1)) = some (.bool (R i)) := ⟨fun i => Classical.choose (each i), fun i => Classical.choose_spec (each i)⟩
    obtain ⟨b, o, spot⟩ := a
    have hspot : spot = none := by simpa [Addr.add] using World.cell?_spot (hR 0 (by omega))
    subst hspot
    refine ⟨(List.range len0).map R, ⟨some ⟨b, o, none⟩, m, by simp, fun j x hj => ?_⟩, by simp; omega⟩
    rw [List.getElem?_map] at hj
    obtain ⟨y, hy, rfl⟩ := Option.map_eq_some_iff.1 hj
    obtain ⟨hj', e⟩ := List.getElem?_eq_some_iff.1 hy
    simp at hj' e
    subst e
    have := hR j hj'
    rw [add_at2, Nat.mul_one] at this
    exact ⟨b, o, rfl, cell_lt this, this⟩

end Go.Proofs.YtnpeiibecihleaaGreatDoor

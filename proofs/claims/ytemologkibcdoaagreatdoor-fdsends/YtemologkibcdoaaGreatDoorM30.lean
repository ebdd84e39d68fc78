/-
  Files (stage 14): Open.
  Numbers of open files (stage 16): what is open in pure form, and what each call makes of it.
-/
import Derived.Test.YtemologkibcdoaaGreatDoorM29
import Derived.Test.YtemologkibcdoaaGreatDoorM43

/- Files (stage 14): Open. -/
namespace Go.Proofs.YtemologkibcdoaaGreatDoor
open Go.RowKit Go.Maps

theorem walk_rg {s : NS} {n : Nat} (K : NOk s n) (d : Int) (p : List UInt8) (fl : Bool) : 0 ≤ (walkN s d p fl).1 ∧ (walkN s d p fl).1 ≤ 1024 := by
  unfold walkN
  split
  · rename_i h
    have hr := isD_rng K h
    exact (goes_bnd K 8 p fl 8 hr.1 hr.2).1
  · exact ⟨by decide, by decide⟩
theorem made_rg {s s' : NS} {n nb : Nat} (K : NOk s n) {d N E : Int} {p t : List UInt8} {k : Int} (h : MadeSp s nb d p k t N E s') : 0 ≤ N ∧ N ≤ 1024 := by
  cases h with
  | bad h => exact ⟨by decide, by decide⟩
  | nodes h1 h2 => exact ⟨by decide, by decide⟩
  | space => exact ⟨by decide, by decide⟩
  | done N' E' T1 T2 h1 h2 h3 h4 h5 =>
    have := make_rng h2 K.max
    omega
set_option maxRecDepth 20000 in
set_option maxHeartbeats 1000000 in
theorem fnil_no {w : World} {f q nb n : Nat} {B : Bas} {Y : Nat → Prop} {s : NS} (H : FX w f q Y s nb n B) : Calls Tryz.prog 61 #[.pointer (some ⟨f, 0, none⟩)] w fun e w' => e = .returned (.bool false) ∧ w' = w := by
  have HR := hide (froot_any H)
  clear H
  go_enter Tryz.func61, Tryz.ntmps61
  go_wp2_with fail
  refine (unhide HR).mono ?_
  rintro e w1 ⟨rfl, hw1⟩
  subst hw1
  go_wp2_with fail
  go_ret
  exact ⟨rfl, rfl⟩
set_option maxRecDepth 20000 in
set_option maxHeartbeats 1000000 in
theorem fdir_any {w : World} {f q nb n : Nat} {B : Bas} {Y : Nat → Prop} {s : NS} (H : FX w f q Y s nb n B) (d : Int) (hb : -9223372036854775808 ≤ d ∧ d ≤ 9223372036854775807) : Calls Tryz.prog 85 #[.pointer (some ⟨f, 0, none⟩), .int .i64 d] w fun e w' => e = .returned (.bool (isD s d)) ∧ Below w.heap.size w w' := by
  have HS := hide (stat_any H d hb)
  have hk : isD s d = decide (statK s d = 2) := rfl
  rw [hk]
  obtain ⟨k, hk⟩ : ∃ k, k = statK s d := ⟨_, rfl⟩
  rw [← hk] at HS ⊢
  obtain ⟨a, ha⟩ : ∃ a : Int, a = (if kdI s.T d = 0 then 0 else (statZ s d : Int)) := ⟨_, rfl⟩
  obtain ⟨b, hb'⟩ : ∃ b : Int, b = (if kdI s.T d = 0 then 0 else (nmI s.T d : Int)) := ⟨_, rfl⟩
  obtain ⟨c, hc⟩ : ∃ c : Int, c = statE s d := ⟨_, rfl⟩
  rw [← ha, ← hb', ← hc] at HS
  clear H hk ha hb' hc
  by_cases h2 : k = 2
  · subst h2
    rw [decide_eq_true rfl]
    go_enter Tryz.func85, Tryz.ntmps85
    go_wp2_with fail
    refine (unhide HS).mono ?_
    rintro e w1 ⟨rfl, b1⟩
    have HB1 := hide b1
    clear b1
    go_wp2_with fail
    go_ret
    exact ⟨rfl, (unhide HB1).alloc (unhide HB1).size _⟩
  · have h3 : (((k : Nat) : Int) == 2) = false := by rw [beq_eq_false_iff_ne]; omega
    rw [decide_eq_false h2]
    clear h2
    go_enter Tryz.func85, Tryz.ntmps85
    go_wp2_with fail
    refine (unhide HS).mono ?_
    rintro e w1 ⟨rfl, b1⟩
    have HB1 := hide b1
    clear b1
    go_wp2_with fail
    go_ret
    exact ⟨rfl, (unhide HB1).alloc (unhide HB1).size _⟩
def crE (E : Int) : Int := if E = 22 then 23 else E
def crN (N E : Int) : Int := if E = 22 then 0 else N
set_option maxRecDepth 20000 in
set_option maxHeartbeats 1000000 in
theorem fcreate_any {w : World} {f q nb n : Nat} {B : Bas} {Y : Nat → Prop} {s : NS} (H : FX w f q Y s nb n B) (hnn : n ≤ 10000) (d : Int) (p : List UInt8) (hb : -9223372036854775808 ≤ d ∧ d ≤ 9223372036854775807) (hp : p.length ≤ 100000) : Calls Tryz.prog 84 #[.pointer (some ⟨f, 0, none⟩), .int .i64 d, .string (BA p)] w fun e w' => ∃ N E, e = .returned (.tuple #[.int .i64 (crN N E), .int .i64 (crE E)]) ∧ Hid (∃ s', MadeSp s nb d p 1 [] N E s' ∧ FX w' f q Y s' nb (n + 1) B) := by
  have HM := hide (make_any H hnn d p hb hp)
  clear H
  go_enter Tryz.func84, Tryz.ntmps84
  go_wp2_with fail
  refine (unhide HM).mono ?_
  rintro e w1 ⟨N, E, rfl, HX⟩
  by_cases hE : E = 22
  · subst hE
    go_wp2_with fail
    go_ret2
    exact ⟨N, 22, rfl, HX⟩
  · have hE1 : (E == 22) = false := by rw [beq_eq_false_iff_ne]; exact hE
    have HE := hide hE
    clear hE
    go_wp2_with fail
    go_ret2
    refine ⟨N, E, ?_, HX⟩
    have e1 : crN N E = N := if_neg (unhide HE)
    have e2 : crE E = E := if_neg (unhide HE)
    rw [e1, e2]
    rfl
/-- Which node is opened. -/
inductive FiSp (s : NS) (nb : Nat) (d : Int) (p : List UInt8) (fl : Int) : Int → Int → NS → Prop
  | mk (N E : Int) (s' : NS) : (walkN s d p true).2 = 23 → hasF fl 8 = true → MadeSp s nb d p 1 [] N E s' → FiSp s nb d p fl (crN N E) (crE E) s'
  | no : (walkN s d p true).2 ≠ 0 → ((walkN s d p true).2 = 23 → hasF fl 8 = false) → FiSp s nb d p fl 0 (walkN s d p true).2 s
  | there : (walkN s d p true).2 = 0 → hasF fl 40 = true → FiSp s nb d p fl 0 22 s
  | dir : (walkN s d p true).2 = 0 → hasF fl 40 = false → isD s (walkN s d p true).1 = true → FiSp s nb d p fl 0 24 s
  | ok : (walkN s d p true).2 = 0 → hasF fl 40 = false → isD s (walkN s d p true).1 = false → FiSp s nb d p fl (walkN s d p true).1 0 s
theorem fi_rg {s s' : NS} {n nb : Nat} (K : NOk s n) {d N E : Int} {p : List UInt8} {fl : Int} (h : FiSp s nb d p fl N E s') : 0 ≤ N ∧ N ≤ 1024 := by
  cases h with
  | mk N' E' s' h1 h2 h3 =>
    have := made_rg K h3
    unfold crN
    split
    · omega
    · exact this
  | no => exact ⟨by decide, by decide⟩
  | there => exact ⟨by decide, by decide⟩
  | dir => exact ⟨by decide, by decide⟩
  | ok => exact walk_rg K _ _ _
set_option maxRecDepth 20000 in
set_option maxHeartbeats 4000000 in
theorem ffind_any {w : World} {f q nb n : Nat} {B : Bas} {Y : Nat → Prop} {s : NS} {l : List (Nat × Fl)} (H : GX w f q Y s nb n B l) (hnn : n ≤ 10000) (d : Int) (p : List UInt8) (fl : Int) (hb : -9223372036854775808 ≤ d ∧ d ≤ 9223372036854775807) (hp : p.length ≤ 100000) : Calls Tryz.prog 62 #[.pointer (some ⟨f, 0, none⟩), .int .i64 d, .string (BA p), .int .i64 fl] w fun e w' => ∃ N E, e = .returned (.tuple #[.int .i64 N, .int .i64 E]) ∧ Hid (∃ s', FiSp s nb d p fl N E s' ∧ GX w' f q Y s' nb (n + 1) B l) := by
  have HW := hide (walk_any H.fx d p true hb hp)
  have hrg := walk_rg H.fx.nd.ok d p true
  have HC : Hid (∀ W, Below w.heap.size w W → Calls Tryz.prog 84 #[.pointer (some ⟨f, 0, none⟩), .int .i64 d, .string (BA p)] W fun e w' => ∃ N E, e = .returned (.tuple #[.int .i64 (crN N E), .int .i64 (crE E)]) ∧ Hid (∃ s', MadeSp s nb d p 1 [] N E s' ∧ GX w' f q Y s' nb (n + 1) B l)) := hide (fun W hW => (fcreate_any (H.below hW).fx.rebased hnn d p hb hp).mono (fun e w' h => by
    obtain ⟨N, E, e1, e2⟩ := h
    obtain ⟨s', e3, e4⟩ := unhide e2
    exact ⟨N, E, e1, hide ⟨s', e3, (H.below hW).tree e4⟩⟩))
  have HD : Hid (∀ W, Below w.heap.size w W → Calls Tryz.prog 85 #[.pointer (some ⟨f, 0, none⟩), .int .i64 (walkN s d p true).1] W fun e w' => e = .returned (.bool (isD s (walkN s d p true).1)) ∧ Below w.heap.size w w') := hide (fun W hW => (fdir_any (H.below hW).fx _ (by omega)).mono (fun e w' h => ⟨h.1, hW.trans (h.2.mono hW.size)⟩))
  have H8 : Hid (∀ W, Calls Tryz.prog 63 #[.int .i64 fl, .int .i64 8] W fun e w' => e = .returned (.bool (hasF fl 8)) ∧ w' = W) := hide (fun W => has_any fl 8 W)
  have H40 : Hid (∀ W, Calls Tryz.prog 63 #[.int .i64 fl, .int .i64 40] W fun e w' => e = .returned (.bool (hasF fl 40)) ∧ w' = W) := hide (fun W => has_any fl 40 W)
  have HG : Hid (∀ W, Below w.heap.size w W → GX W f q Y s nb (n + 1) B l) := hide (fun W hW => (H.below hW).mono (Nat.le_succ _))
  have HS1 : Hid (∀ N E s', (walkN s d p true).2 = 23 → hasF fl 8 = true → MadeSp s nb d p 1 [] N E s' → FiSp s nb d p fl (crN N E) (crE E) s') := hide (fun N E s' a b c => .mk N E s' a b c)
  have HS2 : Hid ((walkN s d p true).2 ≠ 0 → ((walkN s d p true).2 = 23 → hasF fl 8 = false) → FiSp s nb d p fl 0 (walkN s d p true).2 s) := hide .no
  have HS3 : Hid ((walkN s d p true).2 = 0 → hasF fl 40 = true → FiSp s nb d p fl 0 22 s) := hide .there
  have HS4 : Hid ((walkN s d p true).2 = 0 → hasF fl 40 = false → isD s (walkN s d p true).1 = true → FiSp s nb d p fl 0 24 s) := hide .dir
  have HS5 : Hid ((walkN s d p true).2 = 0 → hasF fl 40 = false → isD s (walkN s d p true).1 = false → FiSp s nb d p fl (walkN s d p true).1 0 s) := hide .ok
  obtain ⟨N, hN⟩ : ∃ N, N = (walkN s d p true).1 := ⟨_, rfl⟩
  obtain ⟨E, hE⟩ : ∃ E, E = (walkN s d p true).2 := ⟨_, rfl⟩
  obtain ⟨f8, hf8⟩ : ∃ b, b = hasF fl 8 := ⟨_, rfl⟩
  obtain ⟨f40, hf40⟩ : ∃ b, b = hasF fl 40 := ⟨_, rfl⟩
  obtain ⟨dd, hdd⟩ : ∃ b, b = isD s (walkN s d p true).1 := ⟨_, rfl⟩
  rw [← hdd] at HD HS4 HS5
  rw [← hN, ← hE] at HW
  rw [← hN] at HD HS5
  rw [← hE] at HS1 HS2 HS3 HS4 HS5
  rw [← hf8] at H8 HS1 HS2
  rw [← hf40] at H40 HS3 HS4 HS5
  obtain ⟨A, hA⟩ : ∃ A, A = BA p := ⟨_, rfl⟩
  rw [← hA] at HW HC ⊢
  clear H hN hE hf8 hf40 hdd hrg hb hp hA
  by_cases h0 : E = 0
  · subst h0
    clear HS1 HS2 HC H8
    cases f40 with
    | true =>
      have HF := hide (unhide HS3 rfl rfl)
      clear HS4 HS5 HD
      go_enter Tryz.func62, Tryz.ntmps62
      go_wp2_with fail
      refine (unhide HW).mono ?_
      rintro e w1 ⟨rfl, b1⟩
      have HB1 := hide b1
      clear b1
      go_wp2_with fail
      refine (unhide H40 _).mono ?_
      rintro e w2 ⟨rfl, hw2⟩
      subst hw2
      go_wp2_with fail
      go_ret2
      exact ⟨_, _, rfl, hide ⟨s, unhide HF, unhide HG _ (unhide HB1)⟩⟩
    | false =>
      cases dd with
      | true =>
        have HF := hide (unhide HS4 rfl rfl rfl)
        clear HS3 HS4 HS5
        go_enter Tryz.func62, Tryz.ntmps62
        go_wp2_with fail
        refine (unhide HW).mono ?_
        rintro e w1 ⟨rfl, b1⟩
        have HB1 := hide b1
        clear b1
        go_wp2_with fail
        refine (unhide H40 _).mono ?_
        rintro e w2 ⟨rfl, hw2⟩
        subst hw2
        go_wp2_with fail
        refine (unhide HD _ (unhide HB1)).mono ?_
        rintro e w3 ⟨rfl, b3⟩
        have HB3 := hide b3
        clear b3
        go_wp2_with fail
        go_ret2
        exact ⟨_, _, rfl, hide ⟨s, unhide HF, unhide HG _ (unhide HB3)⟩⟩
      | false =>
        have HF := hide (unhide HS5 rfl rfl rfl)
        clear HS3 HS4 HS5
        go_enter Tryz.func62, Tryz.ntmps62
        go_wp2_with fail
        refine (unhide HW).mono ?_
        rintro e w1 ⟨rfl, b1⟩
        have HB1 := hide b1
        clear b1
        go_wp2_with fail
        refine (unhide H40 _).mono ?_
        rintro e w2 ⟨rfl, hw2⟩
        subst hw2
        go_wp2_with fail
        refine (unhide HD _ (unhide HB1)).mono ?_
        rintro e w3 ⟨rfl, b3⟩
        have HB3 := hide b3
        clear b3
        go_wp2_with fail
        go_ret2
        exact ⟨_, _, rfl, hide ⟨s, unhide HF, unhide HG _ (unhide HB3)⟩⟩
  · clear HS3 HS4 HS5 HD H40
    by_cases h23 : E = 23
    · subst h23
      cases f8 with
      | true =>
        have HF := hide (fun N E s' => unhide HS1 N E s' rfl rfl)
        clear HS1 HS2 h0
        go_enter Tryz.func62, Tryz.ntmps62
        go_wp2_with fail
        refine (unhide HW).mono ?_
        rintro e w1 ⟨rfl, b1⟩
        have HC1 := hide (unhide HC _ b1)
        clear b1
        go_wp2_with fail
        refine (unhide H8 _).mono ?_
        rintro e w2 ⟨rfl, hw2⟩
        subst hw2
        go_wp2_with fail
        refine (unhide HC1).mono ?_
        rintro e w3 ⟨N2, E2, rfl, HX⟩
        go_wp2_with fail
        go_ret2
        obtain ⟨s', e3, e4⟩ := unhide HX
        exact ⟨_, _, rfl, hide ⟨s', unhide HF _ _ _ e3, e4⟩⟩
      | false =>
        have HF := hide (unhide HS2 (by decide) (fun _ => rfl))
        clear HS1 HS2 h0
        go_enter Tryz.func62, Tryz.ntmps62
        go_wp2_with fail
        refine (unhide HW).mono ?_
        rintro e w1 ⟨rfl, b1⟩
        have HB1 := hide b1
        clear b1
        go_wp2_with fail
        refine (unhide H8 _).mono ?_
        rintro e w2 ⟨rfl, hw2⟩
        subst hw2
        go_wp2_with fail
        go_ret2
        exact ⟨_, _, rfl, hide ⟨s, unhide HF, unhide HG _ (unhide HB1)⟩⟩
    · have HF := hide (unhide HS2 h0 (fun h => absurd h h23))
      have hE1 : (E != 0) = true := by simpa using h0
      have hE2 : (E == 23) = false := by rw [beq_eq_false_iff_ne]; exact h23
      clear HS1 HS2 h0 h23
      go_enter Tryz.func62, Tryz.ntmps62
      go_wp2_with fail
      refine (unhide HW).mono ?_
      rintro e w1 ⟨rfl, b1⟩
      have HB1 := hide b1
      clear b1
      go_wp2_with fail
      go_ret2
      exact ⟨_, _, rfl, hide ⟨s, unhide HF, unhide HG _ (unhide HB1)⟩⟩
/-- Flags that are none. -/
def badF (fl : Int) : Bool := (bits .and .i64 fl 3 == 0) || (bits .andNot .i64 fl 63 != 0)
def opS (s : NS) (N fl : Int) : NS := { (if hasF fl 18 then ncutS s N 0 else s) with T := holdT (if hasF fl 18 then ncutS s N 0 else s).T N }
/-- What Open answers and leaves. -/
inductive OpSp (s : NS) (nb : Nat) (d : Int) (p : List UInt8) (fl : Int) : Option Fl → Int → NS → Prop
  | arg : badF fl = true → OpSp s nb d p fl none 1 s
  | err (N E : Int) (s' : NS) : badF fl = false → FiSp s nb d p fl N E s' → E ≠ 0 → OpSp s nb d p fl none E s'
  | ok (N : Int) (s' : NS) : badF fl = false → FiSp s nb d p fl N 0 s' → OpSp s nb d p fl (some ⟨false, N, 0, fl⟩) 0 (opS s' N fl)
set_option maxRecDepth 20000 in
set_option maxHeartbeats 4000000 in
theorem fopen_any {w : World} {f q nb n : Nat} {B : Bas} {Y : Nat → Prop} {s : NS} {l : List (Nat × Fl)} (H : GX w f q Y s nb n B l) (hnn : n ≤ 9000) (d : Int) (p : List UInt8) (fl : Int) (hb : -9223372036854775808 ≤ d ∧ d ≤ 9223372036854775807) (hp : p.length ≤ 100000) : Calls Tryz.prog 42 #[.pointer (some ⟨f, 0, none⟩), .int .i64 d, .string (BA p), .int .i64 fl] w fun e w' => ∃ o E pt, e = .returned (.tuple #[.pointer pt, .int .i64 E]) ∧ Hid (∃ s', OpSp s nb d p fl o E s' ∧ ((o = none ∧ pt = none ∧ GX w' f q Y s' nb (n + 3) B l) ∨ ∃ x b Y', o = some x ∧ pt = some ⟨b, 0, none⟩ ∧ GX w' f q Y' s' nb (n + 3) B (l ++ [(b, x)]) ∧ (∀ k, Y' k → B.tn k) ∧ B.tn b)) := by
  have HN := hide (fnil_no H.fx)
  have HF := hide (ffind_any H (by omega) d p fl hb hp)
  have H18 : Hid (∀ W, Calls Tryz.prog 63 #[.int .i64 fl, .int .i64 18] W fun e w' => e = .returned (.bool (hasF fl 18)) ∧ w' = W) := hide (fun W => has_any fl 18 W)
  have HC : Hid (∀ W s' N E, FiSp s nb d p fl N E s' → GX W f q Y s' nb (n + 1) B l → Calls Tryz.prog 64 #[.pointer (some ⟨f, 0, none⟩), .int .i64 N, .int .i64 0] W fun e w' => ∃ E, e = .returned (.int .i64 E) ∧ Hid (GX w' f q Y (ncutS s' N 0) nb (n + 2) B l)) := hide (fun W s' N E h1 h2 => (fcut_any h2.fx.rebased N 0 (by have := fi_rg H.fx.nd.ok h1; omega)).mono (fun e w' h => ⟨_, h.1, hide (h2.tree (unhide h.2))⟩))
  have HH : Hid (∀ W s' N, 0 ≤ N ∧ N ≤ 1024 → GX W f q Y s' nb (n + 2) B l → Calls Tryz.prog 65 #[.pointer (some ⟨f, 0, none⟩), .int .i64 N] W fun e w' => ∃ E, e = .returned (.int .i64 E) ∧ Hid (GX w' f q Y { s' with T := holdT s'.T N } nb (n + 3) B l)) := hide (fun W s' N h1 h2 => (nhold_any h2.fx.rebased (by omega) N (by omega)).mono (fun e w' h => ⟨_, h.1, hide (h2.tree (unhide h.2))⟩))
  have HRG : Hid (∀ N E s', FiSp s nb d p fl N E s' → 0 ≤ N ∧ N ≤ 1024) := hide (fun N E s' h => fi_rg H.fx.nd.ok h)
  have HSZ : Hid (∀ W s', GX W f q Y s' nb (n + 3) B l → ∀ N, 0 ≤ N ∧ N ≤ 1024 → ∃ Y', GX (W.alloc (.cells (flV f ⟨false, N, 0, fl⟩) 145)) f q Y' s' nb (n + 3) B (l ++ [(W.heap.size, ⟨false, N, 0, fl⟩)]) ∧ (∀ k, Y' k → B.tn k) ∧ B.tn W.heap.size) := hide (fun W s' h N hN => by
    have h2 := h.more (x := ⟨false, N, 0, fl⟩) ⟨hN, by show (0 : Int) ≤ 0 ∧ (0 : Int) ≤ 100000; decide⟩
    exact ⟨_, h2, h2.fx.nd.yb, (h2.out l.length W.heap.size ⟨false, N, 0, fl⟩ (by simp)).2.1⟩)
  have HA : Hid (badF fl = true → OpSp s nb d p fl none 1 s) := hide .arg
  have HEr : Hid (∀ N E s', badF fl = false → FiSp s nb d p fl N E s' → E ≠ 0 → OpSp s nb d p fl none E s') := hide (fun N E s' a b c => .err N E s' a b c)
  have HOk : Hid (∀ N s', badF fl = false → FiSp s nb d p fl N 0 s' → OpSp s nb d p fl (some ⟨false, N, 0, fl⟩) 0 (opS s' N fl)) := hide (fun N s' a b => .ok N s' a b)
  have HGS : Hid (GX w f q Y s nb (n + 3) B l) := hide (H.mono (by omega))
  have HM1 : Hid (∀ W s', GX W f q Y s' nb (n + 1) B l → GX W f q Y s' nb (n + 3) B l ∧ GX W f q Y s' nb (n + 2) B l) := hide (fun W s' h => ⟨h.mono (by omega), h.mono (by omega)⟩)
  obtain ⟨A, hA⟩ : ∃ A, A = BA p := ⟨_, rfl⟩
  rw [← hA] at HF ⊢
  have HOPS : Hid (∀ s' N, (hasF fl 18 = true → opS s' N fl = { ncutS s' N 0 with T := holdT (ncutS s' N 0).T N }) ∧ (hasF fl 18 = false → opS s' N fl = { s' with T := holdT s'.T N })) := hide (fun s' N => ⟨fun h => by unfold opS; rw [if_pos h], fun h => by unfold opS; rw [h]; rfl⟩)
  clear H hb hp hA
  have hbad : badF fl = ((bits .and .i64 fl 3 == 0) || (bits .andNot .i64 fl 63 != 0)) := rfl
  obtain ⟨f18, hf18⟩ : ∃ b, b = hasF fl 18 := ⟨_, rfl⟩
  rw [← hf18] at H18 HOPS
  clear hf18
  cases h3 : (bits .and .i64 fl 3 == 0) with
  | true =>
    have HX := hide (unhide HA (by rw [hbad, h3]; first | rfl | (rw [hn]; rfl)))
    clear HEr HOk HF HC HH HRG HSZ H18 HM1 HOPS hbad
    go_enter Tryz.func42, Tryz.ntmps42
    go_wp2_with fail
    refine (unhide HN).mono ?_
    rintro e w1 ⟨rfl, hw1⟩
    subst hw1
    go_wp2_with fail
    go_ret2
    exact ⟨none, 1, none, rfl, hide ⟨s, unhide HX, .inl ⟨rfl, rfl, unhide HGS⟩⟩⟩
  | false =>
    cases hn : (bits .andNot .i64 fl 63 != 0) with
    | true =>
      have HX := hide (unhide HA (by rw [hbad, h3]; first | rfl | (rw [hn]; rfl)))
      clear HEr HOk HF HC HH HRG HSZ H18 HM1 HOPS hbad
      go_enter Tryz.func42, Tryz.ntmps42
      go_wp2_with fail
      refine (unhide HN).mono ?_
      rintro e w1 ⟨rfl, hw1⟩
      subst hw1
      go_wp2_with fail
      go_ret2
      exact ⟨none, 1, none, rfl, hide ⟨s, unhide HX, .inl ⟨rfl, rfl, unhide HGS⟩⟩⟩
    | false =>
      have HBF : Hid (badF fl = false) := hide (by rw [hbad, h3, hn]; rfl)
      clear hbad HA
      go_enter Tryz.func42, Tryz.ntmps42
      go_wp2_with fail
      refine (unhide HN).mono ?_
      rintro e w1 ⟨rfl, hw1⟩
      subst hw1
      go_wp2_with fail
      refine (unhide HF).mono ?_
      rintro e w2 ⟨N, E, rfl, HX⟩
      obtain ⟨s1, e1, e2⟩ := unhide HX
      have HE1 := hide e1
      have HE2 := hide e2
      have HR := unhide HRG N E s1 e1
      clear HX e1 e2 HF
      by_cases hE : E = 0
      · subst hE
        have HOP := hide (unhide HOk N s1 (unhide HBF) (unhide HE1))
        have HO := hide (unhide HOPS s1 N)
        clear HOk HEr HGS HOPS HBF
        cases f18 with
        | true =>
          go_wp2_with fail
          refine (unhide H18 _).mono ?_
          rintro e w3 ⟨rfl, hw3⟩
          subst hw3
          go_wp2_with fail
          refine (unhide HC _ _ N _ (unhide HE1) (unhide HE2)).mono ?_
          rintro e w4 ⟨E4, rfl, HG4⟩
          go_wp2_with fail
          refine (unhide HH _ _ N HR (unhide HG4)).mono ?_
          rintro e w5 ⟨E5, rfl, HG5⟩
          have HG6 := hide (unhide HSZ w5 _ (unhide HG5) N HR)
          go_wp2_with fail
          go_ret2
          obtain ⟨Y', g1, g2, g3⟩ := unhide HG6
          refine ⟨_, _, _, rfl, hide ⟨_, unhide HOP, .inr ⟨_, _, Y', rfl, rfl, ?_, g2, g3⟩⟩⟩
          rw [(unhide HO).1 trivial]
          exact g1
        | false =>
          have HG4 := hide (unhide HM1 _ _ (unhide HE2)).2
          go_wp2_with fail
          refine (unhide H18 _).mono ?_
          rintro e w3 ⟨rfl, hw3⟩
          subst hw3
          go_wp2_with fail
          refine (unhide HH _ _ N HR (unhide HG4)).mono ?_
          rintro e w5 ⟨E5, rfl, HG5⟩
          have HG6 := hide (unhide HSZ w5 _ (unhide HG5) N HR)
          go_wp2_with fail
          go_ret2
          obtain ⟨Y', g1, g2, g3⟩ := unhide HG6
          refine ⟨_, _, _, rfl, hide ⟨_, unhide HOP, .inr ⟨_, _, Y', rfl, rfl, ?_, g2, g3⟩⟩⟩
          rw [(unhide HO).2 trivial]
          exact g1
      · have HOP := hide (unhide HEr N E s1 (unhide HBF) (unhide HE1) hE)
        have HG3 := hide (unhide HM1 _ _ (unhide HE2)).1
        have hE1 : (E != 0) = true := by simpa using hE
        clear HOk HEr HGS HOPS HBF HC HH HSZ hE HRG HM1 H18
        go_wp2_with fail
        go_ret2
        exact ⟨none, E, none, rfl, hide ⟨s1, unhide HOP, .inl ⟨rfl, rfl, unhide HG3⟩⟩⟩
theorem made_is2 {s s' : NS} {nb : Nat} {d kind N E : Int} {p : List UInt8} (h : MadeSp s nb d p kind [] N E s') (h1 : (roomN s d p).2.2 = 0) (h2 : makeE s.T kind = 0) : N = makeN s.T kind ∧ E = 0 ∧ s' = ⟨tieT (makeT s.T kind) (makeN s.T kind), putL s.L ⟨(roomN s d p).1, (roomN s d p).2.1, makeN s.T kind⟩, parU s.par (makeN s.T kind) (roomN s d p).1⟩ := by
  obtain ⟨a1, a2, a3⟩ := make_all h2
  have a4 : ndAt (makeT s.T kind) (makeN s.T kind) = some (nd0 kind.toNat) := by rw [a3, if_pos rfl]
  have hx : ndAt (tieT (makeT s.T kind) (makeN s.T kind)) (makeN s.T kind) = some (tieN (nd0 kind.toNat)) := by
    unfold tieT
    rw [a4]
    dsimp only
    rw [set_nd a4, if_pos rfl]
  have hd : MadeSp s nb d p kind [] (makeN s.T kind) 0 ⟨tieT (makeT s.T kind) (makeN s.T kind), putL s.L ⟨(roomN s d p).1, (roomN s d p).2.1, makeN s.T kind⟩, parU s.par (makeN s.T kind) (roomN s d p).1⟩ := .done 0 0 _ _ h1 h2 rfl (.empty _ hx (Int.le_refl _) rfl) (by decide)
  exact h.uniq hd
theorem op_made {s s' : NS} {nb : Nat} {d fl E : Int} {p : List UInt8} {o : Option Fl} (h : OpSp s nb d p fl o E s') (hb : badF fl = false) (hw : (walkN s d p true).2 = 23) (h8 : hasF fl 8 = true) (hr : (roomN s d p).2.2 = 0) (hm : makeE s.T 1 = 0) : E = 0 ∧ o = some ⟨false, makeN s.T 1, 0, fl⟩ ∧ s' = opS ⟨tieT (makeT s.T 1) (makeN s.T 1), putL s.L ⟨(roomN s d p).1, (roomN s d p).2.1, makeN s.T 1⟩, parU s.par (makeN s.T 1) (roomN s d p).1⟩ (makeN s.T 1) fl := by
  have key : ∀ N E s1, FiSp s nb d p fl N E s1 → N = makeN s.T 1 ∧ E = 0 ∧ s1 = ⟨tieT (makeT s.T 1) (makeN s.T 1), putL s.L ⟨(roomN s d p).1, (roomN s d p).2.1, makeN s.T 1⟩, parU s.par (makeN s.T 1) (roomN s d p).1⟩ := by
    intro N E s1 h
    cases h with
    | mk N' E' _ h1 h2 h3 =>
      obtain ⟨e1, e2, e3⟩ := made_is2 h3 hr hm
      subst e2
      exact ⟨e1, rfl, e3⟩
    | no h1 h2 => rw [h2 hw] at h8; cases h8
    | there h1 h2 => rw [hw] at h1; cases h1
    | dir h1 h2 => rw [hw] at h1; cases h1
    | ok h1 h2 => rw [hw] at h1; cases h1
  cases h with
  | arg h => rw [hb] at h; cases h
  | err N E s1 h1 h2 h3 => exact absurd (key N E _ h2).2.1 h3
  | ok N s1 h1 h2 =>
    obtain ⟨e1, _, e3⟩ := key N 0 s1 h2
    subst e1
    subst e3
    exact ⟨rfl, rfl, rfl⟩
theorem op_found {s s' : NS} {nb : Nat} {d fl E N : Int} {p : List UInt8} {o : Option Fl} (h : OpSp s nb d p fl o E s') (hb : badF fl = false) (hw : walkN s d p true = (N, 0)) (h40 : hasF fl 40 = false) (hd : isD s N = false) : E = 0 ∧ o = some ⟨false, N, 0, fl⟩ ∧ s' = opS s N fl := by
  have key : ∀ N' E s1, FiSp s nb d p fl N' E s1 → N' = N ∧ E = 0 ∧ s1 = s := by
    intro N' E s1 h
    cases h with
    | mk N' E' _ h1 h2 h3 => rw [hw] at h1; cases h1
    | no h1 h2 => rw [hw] at h1; exact absurd rfl h1
    | there h1 h2 => rw [h40] at h2; cases h2
    | dir h1 h2 h3 => rw [hw] at h3; rw [show ((N, (0 : Int)) : Int × Int).1 = N from rfl, hd] at h3; cases h3
    | ok h1 h2 => rw [hw]; exact ⟨rfl, rfl, rfl⟩
  cases h with
  | arg h => rw [hb] at h; cases h
  | err N E s1 h1 h2 h3 => exact absurd (key N E _ h2).2.1 h3
  | ok N s1 h1 h2 =>
    obtain ⟨e1, _, e3⟩ := key N 0 s1 h2
    subst e1
    subst e3
    exact ⟨rfl, rfl, rfl⟩
theorem op_there {s s' : NS} {nb : Nat} {d fl E N : Int} {p : List UInt8} {o : Option Fl} (h : OpSp s nb d p fl o E s') (hb : badF fl = false) (hw : walkN s d p true = (N, 0)) (h40 : hasF fl 40 = true) : E = 22 ∧ o = none ∧ s' = s := by
  have key : ∀ N' E s1, FiSp s nb d p fl N' E s1 → E = 22 ∧ s1 = s := by
    intro N' E s1 h
    cases h with
    | mk N' E' _ h1 h2 h3 => rw [hw] at h1; cases h1
    | no h1 h2 => rw [hw] at h1; exact absurd rfl h1
    | there h1 h2 => exact ⟨rfl, rfl⟩
    | dir h1 h2 h3 => rw [h40] at h2; cases h2
    | ok h1 h2 => rw [h40] at h2; cases h2
  cases h with
  | arg h => rw [hb] at h; cases h
  | err N E s1 h1 h2 h3 =>
    obtain ⟨e1, e2⟩ := key N E _ h2
    exact ⟨e1, rfl, e2⟩
  | ok N s1 h1 h2 => exact absurd (key N 0 s1 h2).1 (by decide)

end Go.Proofs.YtemologkibcdoaaGreatDoor

/- Numbers of open files (stage 16): what is open in pure form, and what each call makes of it. -/
namespace Go.Proofs.YtemologkibcdoaaGreatDoor
open Go.RowKit Go.Maps

/-- What something open is: a file, an end of a pipe, a tape, a sink. -/
inductive Wh where
  | file (x : Fl)
  | rd (p : Nat)
  | wr (p : Nat)
  | tape (t : List UInt8)
  | sink (k : Nat)
/-- Something open, for so many numbers. -/
structure Th where
  wh : Wh
  many : Nat
/-- All: the tree, things, pipes, sinks, sets. -/
structure AS where
  s : NS
  th : List Th
  pp : List Pi.Pp
  sk : List (List UInt8)
  st : List (List (Option Nat))
def fdOk (fd : Int) : Bool := decide (0 ≤ fd) && decide (fd < 16)
theorem fdOk_iff {fd : Int} : fdOk fd = true ↔ 0 ≤ fd ∧ fd < 16 := by simp [fdOk]
/-- The thing of a number of a row. -/
def numL (l : List (Option Nat)) (fd : Int) : Option Nat := if fdOk fd then (l[fd.toNat]?).join else none
def row (A : AS) (k : Nat) : List (Option Nat) := A.st[k]?.getD []
def openA (A : AS) : Nat := A.th.countP (fun t => decide (0 < t.many))
def refL (l : List (Option Nat)) (fd : Int) : Int := if (numL l fd).isSome then 0 else 28
def refNewL (l : List (Option Nat)) (fd : Int) : Int := if fdOk fd then (if (numL l fd).isSome then 22 else 0) else 28
/-- The numbers that are open, and those that are not. -/
def numsL (l : List (Option Nat)) (o : Bool) : List Nat := (List.range 16).filter (fun j => ((l[j]?).join).isSome == o)
def putA (A : AS) (k : Nat) (fd : Int) (o : Option Nat) : AS := { A with st := A.st.set k ((row A k).set fd.toNat o) }
def manyA (A : AS) (i m : Nat) : AS := match A.th[i]? with | none => A | some t => { A with th := A.th.set i ⟨t.wh, m⟩ }
def takeA (A : AS) (k : Nat) (fd : Int) (i : Nat) : AS := match A.th[i]? with | none => A | some t => putA (manyA A i (t.many + 1)) k fd (some i)
def setWh (A : AS) (i : Nat) (x : Wh) : AS := match A.th[i]? with | none => A | some t => { A with th := A.th.set i ⟨x, t.many⟩ }
def setPp (A : AS) (p : Nat) (g : Pi.Pp → Pi.Pp) : AS := match A.pp[p]? with | none => A | some y => { A with pp := A.pp.set p (g y) }
/-- Its last number is closed: so is it. -/
def closeW (A : AS) (i : Nat) : Wh → AS
  | .file x => { setWh A i (.file { x with cl := true }) with s := xclS A.s x }
  | .rd p => setPp A p (fun y => Pi.leS y false)
  | .wr p => setPp A p (fun y => Pi.leS y true)
  | _ => A
def closeA (A : AS) (i : Nat) : AS := match A.th[i]? with | none => A | some t => closeW A i t.wh
def dropA (A : AS) (k : Nat) (fd : Int) : AS := match numL (row A k) fd with
  | none => A
  | some i => match A.th[i]? with
    | none => A
    | some t => if t.many = 1 then closeA (manyA (putA A k fd none) i 0) i else manyA (putA A k fd none) i (t.many - 1)
/-- A new thing. -/
def nwA (A : AS) (x : Wh) : AS := { A with th := A.th ++ [⟨x, 0⟩] }

/-- What is read of something open, why not, and what that makes of it. -/
def ppA (A : AS) (p : Nat) : Pi.Pp := A.pp[p]?.getD Pi.np0
def rdWhE (A : AS) (m : Int) : Wh → Int
  | .file x => xrdE A.s x m
  | .rd p => Pi.rdE (ppA A p) m
  | .tape _ => if m < 0 then 1 else 0
  | _ => 33
def rdWhT (A : AS) (m : Int) : Wh → List UInt8
  | .file x => xrdT A.s x m
  | .rd p => Pi.rdT (ppA A p) m
  | .tape t => if m < 0 then [] else t.take m.toNat
  | _ => []
def rdWhA (A : AS) (i : Nat) (m : Int) : Wh → AS
  | .file x => setWh A i (.file (xrdX A.s x m))
  | .rd p => setPp A p (fun y => Pi.rdS y m)
  | .tape t => if m < 0 then A else setWh A i (.tape (t.drop m.toNat))
  | _ => A
def redE (A : AS) (k : Nat) (fd m : Int) : Int := match numL (row A k) fd with | none => 28 | some i => match A.th[i]? with | none => 28 | some t => rdWhE A m t.wh
def redT (A : AS) (k : Nat) (fd m : Int) : List UInt8 := match numL (row A k) fd with | none => [] | some i => match A.th[i]? with | none => [] | some t => rdWhT A m t.wh
def redA (A : AS) (k : Nat) (fd m : Int) : AS := match numL (row A k) fd with | none => A | some i => match A.th[i]? with | none => A | some t => rdWhA A i m t.wh
/-- What is written to something open. -/
inductive WrWh (A : AS) (nb i : Nat) (d : List UInt8) : Wh → Int → Int → AS → Prop
  | file (x : Fl) (N E : Int) (s' : NS) (x' : Fl) : XwrSp A.s nb x d N E s' x' → WrWh A nb i d (.file x) N E { setWh A i (.file x') with s := s' }
  | rd (p : Nat) : WrWh A nb i d (.rd p) 0 33 A
  | wr (p : Nat) : WrWh A nb i d (.wr p) (Pi.wrN (ppA A p) d : Int) (Pi.wrE (ppA A p) d) (setPp A p (fun y => Pi.wrS y d))
  | tape (t : List UInt8) : WrWh A nb i d (.tape t) 0 33 A
  | sink (k : Nat) (t : List UInt8) : A.sk[k]? = some t → WrWh A nb i d (.sink k) (d.length : Int) 0 { A with sk := A.sk.set k (t ++ d) }
inductive WrtA (A : AS) (nb k : Nat) (fd : Int) (d : List UInt8) : Int → Int → AS → Prop
  | no : numL (row A k) fd = none → WrtA A nb k fd d 0 28 A
  | via (i : Nat) (t : Th) (N E : Int) (A' : AS) : numL (row A k) fd = some i → A.th[i]? = some t → WrWh A nb i d t.wh N E A' → WrtA A nb k fd d N E A'
def dupE (A : AS) (k : Nat) (a b : Int) : Int := if (numL (row A k) a).isSome && fdOk b then 0 else 28
def dupA (A : AS) (k : Nat) (a b : Int) : AS := match numL (row A k) a with | none => A | some i => if fdOk b && decide (a ≠ b) then takeA (dropA A k b) k b i else A
/-- A new sink; a new pipe; a new set. -/
def nwSk (A : AS) : AS := { A with sk := A.sk ++ [[]] }
def nwPp (A : AS) : AS := { A with pp := A.pp ++ [Pi.np0] }
def nwSt (A : AS) : AS := { A with st := A.st ++ [List.replicate 16 none] }
/-- What every state keeps to. -/
def holdsA (A : AS) (i : Nat) : Nat := (A.st.map (fun l => l.countP (fun o => decide (o = some i)))).sum
def WhOk (A : AS) : Wh → Prop
  | .file x => FlOk x
  | .rd p => p < A.pp.length
  | .wr p => p < A.pp.length
  | .tape t => t.length ≤ 1000000
  | .sink k => k < A.sk.length
def RowOk (A : AS) : Prop := ∀ (k : Nat) (l : List (Option Nat)), A.st[k]? = some l → l.length = 16 ∧ ∀ (j i : Nat), l[j]? = some (some i) → i < A.th.length
structure AOk (A : AS) (n : Nat) : Prop where
  row : RowOk A
  cnt : ∀ (i : Nat) (t : Th), A.th[i]? = some t → t.many = holdsA A i
  len : A.th.length ≤ n
  few : ∀ (i : Nat) (t : Th), A.th[i]? = some t → t.many ≤ n
  sks : A.sk.length ≤ n
  skl : ∀ (k : Nat) (s : List UInt8), A.sk[k]? = some s → s.length ≤ 100000 * n
  wh : ∀ (i : Nat) (t : Th), A.th[i]? = some t → WhOk A t.wh

end Go.Proofs.YtemologkibcdoaaGreatDoor

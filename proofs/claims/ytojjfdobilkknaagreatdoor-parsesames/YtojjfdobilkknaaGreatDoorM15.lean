/- Package word's small functions: lit, isSpecial, within, parameter.; What is wrong is never 0.; Package word's isBracket, run, piece, operation. -/
import Derived.Test.YtojjfdobilkknaaGreatDoorM12
import Derived.Test.YtojjfdobilkknaaGreatDoorM04
import Derived.Test.YtojjfdobilkknaaGreatDoorM01
import Derived.Test.YtojjfdobilkknaaGreatDoorM13
set_option maxRecDepth 20000
set_option maxHeartbeats 4000000
namespace Go.Proofs.YtojjfdobilkknaaGreatDoor
open Go.RowKit
def dblW (w : Nat) : Bool := w == 0 || w == 1 || w == 3 || w == 4
def escL (w : Nat) : List UInt8 := if w = 2 then [36, 34, 92, 96] else if w = 3 then [36, 34, 92, 96, 125] else if w = 5 then [36, 92, 96] else []
structure WEnv (w : World) : Prop where
 r0 : ∀ k, k < 6 → w.cell? ⟨5, k * 4, none⟩ = some (.bool (sngW k))
 r1 : ∀ k, k < 6 → w.cell? ⟨5, k * 4 + 1, none⟩ = some (.bool (dblW k))
 r2 : ∀ k, k < 6 → w.cell? ⟨5, k * 4 + 2, none⟩ = some (.bool (allW k))
 r3 : ∀ k, k < 6 → w.cell? ⟨5, k * 4 + 3, none⟩ = some (.string (BA (escL k)))
 sg : ∀ j, j < 16 → w.cell? ⟨6, j, none⟩ = [Value.string ⟨#[45]⟩, .int .i64 2, .string ⟨#[61]⟩, .int .i64 3, .string ⟨#[63]⟩, .int .i64 4, .string ⟨#[43]⟩, .int .i64 5, .string ⟨#[35, 35]⟩, .int .i64 7, .string ⟨#[35]⟩, .int .i64 6, .string ⟨#[37, 37]⟩, .int .i64 9, .string ⟨#[37]⟩, .int .i64 8][j]?
 max : ∃ m : Int, w.cell? ⟨1, 0, none⟩ = some (.int .i64 m)
 two : 6 < w.heap.size
theorem WEnv.below {w w1 : World} (h : WEnv w) (hb : Below 7 w w1) : WEnv w1 := by
 have h2 := h.two
 have hc : ∀ b o, b < 7 → w1.cell? ⟨b, o, none⟩ = w.cell? ⟨b, o, none⟩ := fun b o hb3 => World.cell?_of_block (w := w) (a := ⟨b, o, none⟩) (hb.block b hb3)
 obtain ⟨m, hm⟩ := h.max
 exact ⟨fun k hk => (hc _ _ (by decide)).trans (h.r0 k hk), fun k hk => (hc _ _ (by decide)).trans (h.r1 k hk), fun k hk => (hc _ _ (by decide)).trans (h.r2 k hk), fun k hk => (hc _ _ (by decide)).trans (h.r3 k hk), fun j hj => (hc _ _ (by decide)).trans (h.sg j hj), ⟨m, (hc _ _ (by decide)).trans hm⟩, lle h2 hb.size⟩
theorem WEnv.grown {w w1 : World} {X : Nat → Prop} (h : WEnv w) (hg : GrownS w w1 X) (hx : ∀ k, X k → 7 ≤ k) : WEnv w1 :=
 h.below ⟨hg.os, hg.tape, hg.output, hg.size, fun k hk => hg.block k (by have := h.two; omega) (fun e => by have := hx k e; omega)⟩
theorem lit_any (t : ByteArray) (q : Bool) (w : World) : Calls Tryz.prog 151 #[.string t, .bool q] w fun e w' => e = .returned (.agg #[.int .i64 1, .string t, .bool q, .int .i64 0, .bool false, .slice none 0 0]) ∧ Below w.heap.size w w' := by
 go_enter Tryz.func151, Tryz.ntmps151
 go_wp2
 exact bodyPost_ret (v := .agg #[.int .i64 1, .string t, .bool q, .int .i64 0, .bool false, .slice none 0 0]) (by simp [results, Tryz.results151, go_sem]) rfl ⟨rfl, (Below.refl _ _).alloc (ler _) _⟩
theorem u48_eq {c : UInt8} (h : (c.toNat : Int) = 48) : c = 48 := by
 apply UInt8.toNat.inj
 have : c.toNat = 48 := by omega
 rw [this]; rfl
theorem within_any (k : Nat) (op : Int) (w : World) (he : WEnv w) (hk : k < 6) : Calls Tryz.prog 163 #[.int .i64 (k : Int), .int .i64 op] w fun e w' => e = .returned (.int .i64 ((withinW k op : Nat) : Int)) ∧ w' = w := by
 have r0 := he.r0 k hk
 go_enter Tryz.func163, Tryz.ntmps163
 go_wp2
 ·go_ret
  exact ⟨ret_int (by unfold withinW; simp [*]), rfl⟩
 ·go_ret
  exact ⟨ret_int (by unfold withinW; simp [*]), rfl⟩
 ·go_ret
  exact ⟨ret_int (by unfold withinW; rw [if_neg (by simp [*]), if_neg (by omega)]; rfl), rfl⟩
theorem idx_spe (c : UInt8) : decide (0 ≤ Lib.indexByte [64, 42, 35, 63] c) = speB c := by
 unfold speB
 by_cases h1 : c = 64
 ·subst h1; rfl
 by_cases h2 : c = 42
 ·subst h2; rfl
 by_cases h3 : c = 35
 ·subst h3; rfl
 by_cases h4 : c = 63
 ·subst h4; rfl
 have e : Lib.indexByte [64, 42, 35, 63] c = -1 := by simp [Lib.indexByte, Ne.symm h1, Ne.symm h2, Ne.symm h3, Ne.symm h4]
 rw [e, beq_false_of_ne h1, beq_false_of_ne h2, beq_false_of_ne h3, beq_false_of_ne h4]
 rfl
theorem special_any (c : UInt8) (w : World) : Calls Tryz.prog 156 #[.int .u8 (c.toNat : Int)] w fun e w' => e = .returned (.bool (speB c)) ∧ w' = w := by
 have HI : Hid (∀ W, Calls Tryz.prog 83 #[.string ⟨#[64, 42, 35, 63]⟩, .int .u8 (c.toNat : Int)] W fun e w' => e = .returned (.int .i64 (Lib.indexByte [64, 42, 35, 63] c)) ∧ w' = W) := hide (fun W => by
  have := Tryz.strings_IndexByte ⟨#[64, 42, 35, 63]⟩ (c.toNat : Int) W
  rwa [show ((c.toNat : Int)).toNat.toUInt8 = c by simp] at this)
 rw [← idx_spe]
 obtain ⟨K, hK⟩ : ∃ x, x = Lib.indexByte [64, 42, 35, 63] c := ⟨_, rfl⟩
 rw [← hK] at HI ⊢
 clear hK
 go_enter Tryz.func156, Tryz.ntmps156
 go_wp2_with fail
 refine ((uh HI) _).mono ?_
 rintro en w1 ⟨rfl, rfl⟩
 go_wp2
 go_ret
 exact ⟨rfl, rfl⟩
theorem head_get {s : ByteArray} (h : 0 < s.size) : s.data.toList = s[0] :: s.data.toList.drop 1 := by
 have := drop_at h
 simpa using this
theorem parN_front {l : List UInt8} (h : 0 < frontN l) : parN l = frontN l := by unfold parN; rw [if_pos h]
theorem parN_spe {c : UInt8} {r : List UInt8} (h : frontN (c :: r) = 0) (hs : speB c = true) : parN (c :: r) = 1 := by unfold parN; rw [if_neg (by omega)]; simp [hs]
theorem parN_dig {c : UInt8} {r : List UInt8} (h : frontN (c :: r) = 0) (hs : speB c = false) : parN (c :: r) = if 3 < spanN digB (c :: r) ∨ (1 < spanN digB (c :: r) ∧ c = 48) then 0 else spanN digB (c :: r) := by unfold parN; rw [if_neg (by omega)]; simp [hs]
theorem parameter_any (s : ByteArray) (w : World) (hs : s.size ≤ 100000) :
 Calls Tryz.prog 161 #[.string s] w fun e w' => e = .returned (.int .i64 (parN s.data.toList : Int)) ∧ w' = w := by
 have HF := hide (fun W => front_any s W hs)
 by_cases h0 : s.size = 0
 ·have he := empty_of h0
  have hl : s.data.toList = [] := List.eq_nil_of_length_eq_zero (by simpa using h0)
  rw [frontN_empty h0] at HF
  have hfz : Hid (parN s.data.toList = 0) := hide (by rw [hl]; rfl)
  clear hl
  go_enter Tryz.func161, Tryz.ntmps161
  go_wp2_with fail
  refine (uh HF _).mono ?_
  rintro e w1 ⟨rfl, rfl⟩
  go_wp2
  go_ret
  exact ⟨ret_int (by rw [uh hfz]; rfl), rfl⟩
 have hlt : 0 < s.size := by omega
 have he := nonempty_of hlt
 have hl := head_get hlt
 by_cases hf : 0 < frontN s.data.toList
 ·have HP := hide (parN_front hf)
  obtain ⟨n, hn⟩ : ∃ n, n = frontN s.data.toList := ⟨_, rfl⟩
  rw [← hn] at HF HP hf
  have hn0 : (0 : Int) < (n : Int) := by omega
  clear hl hn
  go_enter Tryz.func161, Tryz.ntmps161
  go_wp2_with fail
  refine (uh HF _).mono ?_
  rintro e w1 ⟨rfl, rfl⟩
  go_wp2
  go_ret
  exact ⟨ret_int (by rw [uh HP]), rfl⟩
 ·have hf0 : frontN s.data.toList = 0 := by omega
  rw [hf0] at HF
  have hf1 : frontN (s[0] :: s.data.toList.drop 1) = 0 := by rw [← hl]; exact hf0
  rcases Bool.eq_false_or_eq_true (speB s[0]) with hsp | hsp
  ·have HP := hide (parN_spe hf1 hsp)
   rw [← hl] at HP
   clear hl hf hf0 hf1
   go_enter Tryz.func161, Tryz.ntmps161
   go_wp2_with fail
   refine (uh HF _).mono ?_
   rintro e w1 ⟨rfl, rfl⟩
   go_wp2_with fail
   refine (special_any _ _).mono ?_
   rintro e w1 ⟨rfl, rfl⟩
   go_wp2
   go_ret
   exact ⟨ret_int (by rw [uh HP]; rfl), rfl⟩
  ·have HP := hide (parN_dig hf1 hsp)
   rw [← hl] at HP
   clear hl hf hf0 hf1
   go_enter Tryz.func161, Tryz.ntmps161
   go_wp2_with fail
   refine (uh HF _).mono ?_
   rintro e w1 ⟨rfl, rfl⟩
   go_wp2_with fail
   refine (special_any _ _).mono ?_
   rintro e w1 ⟨rfl, rfl⟩
   rw [hsp]
   go_wp2_with fail
   go_loop [4] (fun i => ∃ k : Nat, k ≤ s.size ∧ i = .int .i64 k ∧ Hid (AllTo digB s.data.toList k)) (fun i => s.size - (intOf i).toNat)
   case atStart => exact ⟨0, Nat.zero_le _, rfl, hide (fun j hj hjk => absurd hjk (by omega))⟩
   case round =>
    obtain ⟨k, hk, rfl, hall⟩ := hrel
    have HEND : Hid (spanN digB s.data.toList = k → parN s.data.toList = if 3 < k ∨ (1 < k ∧ s[0] = 48) then 0 else k) := hide (fun e => by rw [uh HP, e])
    clear HP
    by_cases hlt2 : k < s.size
    ·rcases Bool.eq_false_or_eq_true (digB (s[k].toNat : Int)) with h1 | h1
     ·go_wp2_with (go_at_call 94; refine (digit_any _ _).mono ?_; rintro e w' ⟨rfl, rfl⟩)
      go_round
      case rel => exact ⟨k + 1, by omega, by go_num, hide ((uh hall).succ (by simpa using hlt2) (by rw [data_get s k hlt2]; exact h1))⟩
      case measure => simp [intOf]; omega
     ·have hst : spanN digB s.data.toList = k := spanN_stop digB s.data.toList k (by simpa using hlt2) (uh hall) (by rw [data_get s k hlt2]; exact h1)
      have HR := hide (uh HEND hst)
      clear HEND hst
      have h48 : s[0] = 48 ∨ s[0] ≠ 48 := by by_cases h : s[0] = 48 <;> simp [h]
      by_cases h3 : 3 < k
      ·have h3' : (3 : Int) < (k : Int) := by omega
       have HV : Hid (parN s.data.toList = 0) := hide (by rw [uh HR, if_pos (.inl h3)])
       clear HR h48
       go_wp2_with (go_at_call 94; refine (digit_any _ _).mono ?_; rintro e w' ⟨rfl, rfl⟩)
       go_ret
       exact ⟨ret_int (by rw [uh HV]; rfl), rfl⟩
      have h3' : ¬ (3 : Int) < (k : Int) := by omega
      by_cases h1k : 1 < k
      ·have h1k' : (1 : Int) < (k : Int) := by omega
       rcases h48 with h48 | h48
       ·have h48' : (s[0].toNat : Int) = 48 := by rw [h48]; rfl
        have HV : Hid (parN s.data.toList = 0) := hide (by rw [uh HR, if_pos (.inr ⟨h1k, h48⟩)])
        clear HR h48
        go_wp2_with (go_at_call 94; refine (digit_any _ _).mono ?_; rintro e w' ⟨rfl, rfl⟩)
        go_ret
        exact ⟨ret_int (by rw [uh HV]; rfl), rfl⟩
       ·have h48' : ((s[0].toNat : Int) == 48) = false := by rw [beq_eq_false_iff_ne]; exact fun e => h48 (u48_eq e)
        have HV : Hid (parN s.data.toList = k) := hide (by rw [uh HR, if_neg (by rintro (h | ⟨h, h'⟩); exact h3 h; exact h48 h')])
        clear HR h48
        go_wp2_with (go_at_call 94; refine (digit_any _ _).mono ?_; rintro e w' ⟨rfl, rfl⟩)
        go_ret
        exact ⟨ret_int (by rw [uh HV]), rfl⟩
      have h1k' : ¬ (1 : Int) < (k : Int) := by omega
      have HV : Hid (parN s.data.toList = k) := hide (by rw [uh HR, if_neg (by rintro (h | ⟨h, h'⟩); exact h3 h; exact h1k h)])
      clear HR h48
      go_wp2_with (go_at_call 94; refine (digit_any _ _).mono ?_; rintro e w' ⟨rfl, rfl⟩)
      go_ret
      exact ⟨ret_int (by rw [uh HV]), rfl⟩
    ·have hst : spanN digB s.data.toList = k := by rw [spanN_all digB s.data.toList (fun j hj _ => uh hall j hj (by simp at hj; omega))]; simp; omega
     have HR := hide (uh HEND hst)
     clear HEND hst
     have h48 : s[0] = 48 ∨ s[0] ≠ 48 := by by_cases h : s[0] = 48 <;> simp [h]
     by_cases h3 : 3 < k
     ·have h3' : (3 : Int) < (k : Int) := by omega
      have HV : Hid (parN s.data.toList = 0) := hide (by rw [uh HR, if_pos (.inl h3)])
      clear HR h48
      go_wp2
      go_ret
      exact ⟨ret_int (by rw [uh HV]; rfl), rfl⟩
     have h3' : ¬ (3 : Int) < (k : Int) := by omega
     by_cases h1k : 1 < k
     ·have h1k' : (1 : Int) < (k : Int) := by omega
      rcases h48 with h48 | h48
      ·have h48' : (s[0].toNat : Int) = 48 := by rw [h48]; rfl
       have HV : Hid (parN s.data.toList = 0) := hide (by rw [uh HR, if_pos (.inr ⟨h1k, h48⟩)])
       clear HR h48
       go_wp2
       go_ret
       exact ⟨ret_int (by rw [uh HV]; rfl), rfl⟩
      ·have h48' : ((s[0].toNat : Int) == 48) = false := by rw [beq_eq_false_iff_ne]; exact fun e => h48 (u48_eq e)
       have HV : Hid (parN s.data.toList = k) := hide (by rw [uh HR, if_neg (by rintro (h | ⟨h, h'⟩); exact h3 h; exact h48 h')])
       clear HR h48
       go_wp2
       go_ret
       exact ⟨ret_int (by rw [uh HV]), rfl⟩
     have h1k' : ¬ (1 : Int) < (k : Int) := by omega
     have HV : Hid (parN s.data.toList = k) := hide (by rw [uh HR, if_neg (by rintro (h | ⟨h, h'⟩); exact h3 h; exact h1k h)])
     clear HR h48
     go_wp2
     go_ret
     exact ⟨ret_int (by rw [uh HV]), rfl⟩
end Go.Proofs.YtojjfdobilkknaaGreatDoor
namespace Go.Proofs.YtojjfdobilkknaaGreatDoor
def NZ : Rs → Prop
 | .ok _ => True
 | .err e _ => e ≠ 0
theorem nz_ite {c : Prop} [Decidable c] {x y : Rs} (hx : NZ x) (hy : NZ y) : NZ (if c then x else y) := by
 split
 ·exact hx
 ·exact hy
theorem c_nz : ∀ f : Nat, (∀ l fr e wh d, NZ (cls f l fr e wh d)) ∧ (∀ l fr e wh d, NZ (lop f l fr e wh d)) ∧ (∀ l wh d, NZ (thg f l wh d))
 | 0 => ⟨fun l fr e wh d => by rw [cls]; trivial, fun l fr e wh d => by rw [lop]; trivial, fun l wh d => by rw [thg]; trivial⟩
 | f + 1 => by
   obtain ⟨iC, iL, iT⟩ := c_nz f
   refine ⟨fun l fr e wh d => ?_, fun l fr e wh d => ?_, fun l wh d => ?_⟩
   ·rw [cls_succ]
    exact nz_ite (show (3 : Int) ≠ 0 by decide) (iL _ _ _ _ _)
   ·cases l with
    | nil => rw [lop_nil]; exact (show (11 : Int) ≠ 0 by decide)
    | cons c r =>
      rw [lop_succ]
      refine nz_ite trivial ?_
      have h1 := iT (c :: r) wh d
      cases hq : thg f (c :: r) wh d with
      | ok r' => exact iL r' fr e wh d
      | err x b =>
        rw [hq] at h1
        exact h1
   ·cases l with
    | nil => rw [thg]; trivial
    | cons c r =>
      rw [thg_succ]
      refine nz_ite trivial (nz_ite (nz_ite trivial (iC _ _ _ _ _)) (nz_ite (nz_ite trivial ?_) (nz_ite (nz_ite (iC _ _ _ _ _) (nz_ite (iC _ _ _ _ _) trivial)) (nz_ite (nz_ite (iC _ _ _ _ _) trivial) (nz_ite (show (10 : Int) ≠ 0 by decide) trivial)))))
      split
      ·exact (show (11 : Int) ≠ 0 by decide)
      ·trivial
end Go.Proofs.YtojjfdobilkknaaGreatDoor
namespace Go.Proofs.YtojjfdobilkknaaGreatDoor
open Go.RowKit
theorem bcell {W w1 : World} (hb : Below W.heap.size W w1) : (∀ b o, b < W.heap.size → w1.cell? ⟨b, o, none⟩ = W.cell? ⟨b, o, none⟩) ∧ (∀ b o, b < W.heap.size → w1.frozen? ⟨b, o, none⟩ = W.frozen? ⟨b, o, none⟩) :=
 ⟨fun b o h => hb.cell (p := ⟨b, o, none⟩) h, fun b o h => hb.frozen (p := ⟨b, o, none⟩) h⟩
theorem thg_le {f : Nat} {c : UInt8} {l r : List UInt8} {wh d : Nat} (h : thg (f + 1) (c :: l) wh d = .ok r) : r.length ≤ l.length := by
 have := thg_len f c l wh d
 rw [h] at this
 exact this
theorem hasP_40 (l : List UInt8) : Lib.hasPrefix l [40] = (l.head? == some 40) := by
 cases l with
 | nil => rfl
 | cons c r => rw [hasP_one]; simp [Bool.beq_eq_decide_eq]
theorem cat36 (s : ByteArray) : ((⟨#[36]⟩ : ByteArray) ++ s).data.toList = 36 :: s.data.toList := by simp [ByteArray.data_append]
theorem cat36_size (s : ByteArray) : ((⟨#[36]⟩ : ByteArray) ++ s).size = s.size + 1 := by
 rw [ByteArray.size_append]
 show 1 + s.size = _
 omega
def pcOf (n : Nat) : Rs → Int × Int × Int
 | .ok r => (((n - r.length : Nat) : Int), 0, 0)
 | .err e m => (0, ((n - m.length : Nat) : Int), e)
theorem pieceS_of (s : ByteArray) (q : Bool) (h : 0 < s.size) : pieceS s 0 q = pcOf s.size (thg (3 * s.size + 3) s.data.toList (if q then 1 else 0) 0) := by
 unfold pieceS
 rw [if_neg (by omega)]
 simp only [Int.toNat_zero, List.drop_zero]
 cases thg (3 * s.size + 3) s.data.toList (if q then 1 else 0) 0 <;> rfl
theorem bracket_any (s : ByteArray) (w : World) (hs : s.size ≤ 50000) : Calls Tryz.prog 159 #[.string s] w fun e w' => e = .returned (.bool (brkB s.data.toList)) ∧ Below w.heap.size w w' := by
 have hb : brkB s.data.toList = ((s.data.toList.head? == some 40) && okNil (thg (3 * (s.size + 1) + 3) (36 :: s.data.toList) 0 0)) := by unfold brkB; rw [data_len]
 rcases Bool.eq_false_or_eq_true (s.data.toList.head? == some 40) with h4 | h4
 ·have HH : Hid (∀ W, Calls Tryz.prog 68 #[.string s, .string ⟨#[40]⟩] W fun e w' => e = .returned (.bool true) ∧ w' = W) := hide (fun W => by
   have := Tryz.strings_HasPrefix s ⟨#[40]⟩ W
   rwa [show Lib.hasPrefix s.data.toList (⟨#[40]⟩ : ByteArray).data.toList = true from (hasP_40 _).trans h4] at this)
  obtain ⟨T, hT⟩ : ∃ x, x = thg (3 * (s.size + 1) + 3) (36 :: s.data.toList) 0 0 := ⟨_, rfl⟩
  have hnz : NZ T := by rw [hT]; exact (c_nz _).2.2 _ _ _
  have hle : ∀ r, T = .ok r → r.length ≤ s.size := fun r e => by
   rw [hT] at e
   have := thg_le e
   rwa [data_len] at this
  have hp : pieceS (⟨#[36]⟩ ++ s) 0 false = pcOf (s.size + 1) T := by
   rw [hT, pieceS_of _ _ (by rw [cat36_size]; omega), cat36_size, cat36]
   rfl
  have hsz : (⟨#[36]⟩ ++ s : ByteArray).size = s.size + 1 := cat36_size s
  have HP : Hid (∀ W, Calls Tryz.prog 155 #[.string (⟨#[36]⟩ ++ s), .int .i64 0, .bool false] W fun e w' => e = .returned (.tuple #[.int .i64 (pieceS (⟨#[36]⟩ ++ s) 0 false).1, .int .i64 (pieceS (⟨#[36]⟩ ++ s) 0 false).2.1, .int .i64 (pieceS (⟨#[36]⟩ ++ s) 0 false).2.2]) ∧ Below W.heap.size W w') := hide (fun W => piece_any _ 0 false W (by rw [hsz]; omega))
  rw [hp] at HP
  rw [hb, h4, ← hT]
  clear hb h4 hp hT
  rcases T with r | ⟨e, m⟩
  ·have hr := hle r rfl
   obtain ⟨z, hz⟩ : ∃ z : Nat, z = s.size + 1 - r.length := ⟨_, rfl⟩
   simp only [pcOf, ← hz] at HP
   have hzz : ((z : Int) == (s.size : Int) + 1) = okNil (.ok r) := by
    cases r with
    | nil => simp at hz; simp [hz, okNil]
    | cons c r => simp at hz hr; simp [okNil]; omega
   rw [← hzz]
   clear hzz hz hle hnz hr
   go_enter Tryz.func159, Tryz.ntmps159
   go_wp2_with fail
   refine (uh HH _).mono ?_
   rintro en w1 ⟨rfl, rfl⟩
   go_wp2_with fail
   refine (uh HP _).mono ?_
   rintro en w1 ⟨rfl, b1⟩
   go_wp2
   go_ret
   exact ⟨ret_bool (by simp), b1⟩
  ·have he : e ≠ 0 := hnz
   have he1 : (e == 0) = false := by simpa using he
   obtain ⟨z, hz⟩ : ∃ z : Nat, z = s.size + 1 - m.length := ⟨_, rfl⟩
   simp only [pcOf, ← hz] at HP
   clear hz hle hnz
   go_enter Tryz.func159, Tryz.ntmps159
   go_wp2_with fail
   refine (uh HH _).mono ?_
   rintro en w1 ⟨rfl, rfl⟩
   go_wp2_with fail
   refine (uh HP _).mono ?_
   rintro en w1 ⟨rfl, b1⟩
   go_wp2
   go_ret
   exact ⟨ret_bool rfl, b1⟩
 ·have HH : Hid (∀ W, Calls Tryz.prog 68 #[.string s, .string ⟨#[40]⟩] W fun e w' => e = .returned (.bool false) ∧ w' = W) := hide (fun W => by
   have := Tryz.strings_HasPrefix s ⟨#[40]⟩ W
   rwa [show Lib.hasPrefix s.data.toList (⟨#[40]⟩ : ByteArray).data.toList = false from (hasP_40 _).trans h4] at this)
  rw [hb, h4]
  clear hb h4
  go_enter Tryz.func159, Tryz.ntmps159
  go_wp2_with fail
  refine (uh HH _).mono ?_
  rintro en w1 ⟨rfl, rfl⟩
  go_wp2
  go_ret
  exact ⟨rfl, Below.refl _ _⟩
def partV (p : Prt) (v : Value) : Value := .agg #[.int .i64 p.kind, .string (BA p.text), .bool p.quote, .int .i64 p.op, .bool p.colon, v]
theorem results_part {fn : Func} {t : Tmp} (h : fn.results = #[.cell t 89]) (tmps : Array Value) (w : World) (b : Nat) (a0 a1 a2 a3 a4 a5 : Value) (ht : tmps.getD t undef = .pointer (some ⟨b, 0, none⟩)) (hb : Blk w b 89 #[a0, a1, a2, a3, a4, a5]) :
 (results fn tmps).run Tryz.prog w = .ok (.agg #[a0, a1, a2, a3, a4, a5]) w := by
 have ht' : tmps[t]?.getD undef = .pointer (some ⟨b, 0, none⟩) := by simpa using ht
 have h0 := hb.cell 0 (v := a0) rfl
 have h1 := hb.cell 1 (v := a1) rfl
 have h2 := hb.cell 2 (v := a2) rfl
 have h3 := hb.cell 3 (v := a3) rfl
 have h4 := hb.cell 4 (v := a4) rfl
 have h5 := hb.cell 5 (v := a5) rfl
 simp [results, h, ht', go_sem, h0, h1, h2, h3, h4, h5]
theorem results_part2 {fn : Func} {t u : Tmp} (h : fn.results = #[.cell t 89, .tmp u]) (tmps : Array Value) (w : World) (b : Nat) (a0 a1 a2 a3 a4 a5 x : Value) (ht : tmps.getD t undef = .pointer (some ⟨b, 0, none⟩)) (hu : tmps.getD u undef = x) (hb : Blk w b 89 #[a0, a1, a2, a3, a4, a5]) :
 (results fn tmps).run Tryz.prog w = .ok (.tuple #[.agg #[a0, a1, a2, a3, a4, a5], x]) w := by
 have ht' : tmps[t]?.getD undef = .pointer (some ⟨b, 0, none⟩) := by simpa using ht
 have hu' : tmps[u]?.getD undef = x := by simpa using hu
 have h0 := hb.cell 0 (v := a0) rfl
 have h1 := hb.cell 1 (v := a1) rfl
 have h2 := hb.cell 2 (v := a2) rfl
 have h3 := hb.cell 3 (v := a3) rfl
 have h4 := hb.cell 4 (v := a4) rfl
 have h5 := hb.cell 5 (v := a5) rfl
 simp [results, h, ht', hu', go_sem, h0, h1, h2, h3, h4, h5]
theorem blk_T6 {w : World} {b : Nat} {z0 z1 z2 z3 z4 z5 : Value} (h : Blk w b 89 #[z0, z1, z2, z3, z4, z5]) (x0 x1 x2 x3 x4 x5 : Value) : Blk (T6 w b 0 x0 x1 x2 x3 x4 x5) b 89 #[x0, x1, x2, x3, x4, x5] := by
 have := (((((h.set 0 x0).set 1 x1).set 2 x2).set 3 x3).set 4 x4).set 5 x5
 unfold T6
 simpa using this
theorem brk_len {l : List UInt8} (h : brkB l = true) : 2 ≤ l.length := by
 unfold brkB at h
 simp only [Bool.and_eq_true, beq_iff_eq] at h
 match l, h with
 | [], h => simp at h
 | [c], h =>
   obtain ⟨h1, h2⟩ := h
   simp at h1
   subst h1
   have h3 : okNil (thg (3 * ([40].length + 1) + 3) (36 :: [40]) 0 0) = false := by kernel_rfl
   exact Bool.noConfusion (h2.symm.trans h3)
 | _ :: _ :: _, _ => simp
theorem ext_mid (s : ByteArray) : s.extract 1 (s.size - 1) = BA ((s.data.toList.drop 1).dropLast) := by
 unfold BA
 apply ByteArray.ext
 rw [ByteArray.data_extract]
 apply Array.ext'
 rw [List.dropLast_eq_take]
 simp
theorem run_any (s : ByteArray) (w : World) (hs : s.size ≤ 50000) : Calls Tryz.prog 157 #[.string s] w fun e w' => e = .returned (partV (runP s.data.toList) (.slice none 0 0)) ∧ Below w.heap.size w w' := by
 have HB := hide (fun W => bracket_any s W hs)
 unfold runP
 rcases Bool.eq_false_or_eq_true (brkB s.data.toList) with hb | hb
 ·have hl := brk_len hb
  rw [data_len] at hl
  rw [hb] at HB ⊢
  rw [if_pos rfl]
  obtain ⟨n, hn⟩ : ∃ n, s.size = n + 1 := ⟨s.size - 1, by omega⟩
  have he := ext_mid s
  rw [hn, Nat.add_sub_cancel] at he
  have HE := hide he
  have hn2 : (1 : Int) ≤ (n : Int) := by omega
  have hn1 : IntKind.i64.wrap ((s.size : Int) - 1) = (n : Int) := by rw [IntKind.wrap_i64]; omega
  clear he hb hl
  go_enter Tryz.func157, Tryz.ntmps157
  go_wp2_with fail
  refine (uh HB _).mono ?_
  rintro en w1 ⟨rfl, b1⟩
  have HB1 := hide (((Below.refl _ w).alloc (ler _) _).trans (b1.mono (by simp)))
  have HZ := hide (Blk.below (Blk.new w 89 #[.int .i64 0, .string ⟨#[]⟩, .bool false, .int .i64 0, .bool false, .slice none 0 0]) b1 (by simp))
  obtain ⟨hc, hf⟩ := bcell b1
  have hz : w.heap.size < w1.heap.size := by have := b1.size; simp at this; omega
  clear b1
  go_wp2
  refine bodyPost_ret (v := partV (.mk 4 (s.extract 1 n).data.toList false 0 false []) (.slice none 0 0)) (results_part rfl _ _ w.heap.size _ _ _ _ _ _ rfl (blk_T6 (uh HZ) (.int .i64 4) (.string (s.extract 1 n)) (.bool false) (.int .i64 0) (.bool false) (.slice none 0 0))) rfl ⟨by rw [uh HE]; rfl, ?_⟩
  exact (uh HB1).trans ((T6_grown w1 w.heap.size 0 _ _ _ _ _ _).below (uh HB1).size (fun k e => by omega))
 ·rw [hb] at HB ⊢
  rw [if_neg (by decide)]
  clear hb
  go_enter Tryz.func157, Tryz.ntmps157
  go_wp2_with fail
  refine (uh HB _).mono ?_
  rintro en w1 ⟨rfl, b1⟩
  have HB1 := hide (((Below.refl _ w).alloc (ler _) _).trans (b1.mono (by simp)))
  have HZ := hide (Blk.below (Blk.new w 89 #[.int .i64 0, .string ⟨#[]⟩, .bool false, .int .i64 0, .bool false, .slice none 0 0]) b1 (by simp))
  obtain ⟨hc, hf⟩ := bcell b1
  have hz : w.heap.size < w1.heap.size := by have := b1.size; simp at this; omega
  clear b1
  go_wp2
  refine bodyPost_ret (v := partV (.mk 3 s.data.toList false 0 false []) (.slice none 0 0)) (results_part rfl _ _ w.heap.size _ _ _ _ _ _ rfl (blk_T6 (uh HZ) (.int .i64 3) (.string s) (.bool false) (.int .i64 0) (.bool false) (.slice none 0 0))) rfl ⟨rfl, ?_⟩
  exact (uh HB1).trans ((T6_grown w1 w.heap.size 0 _ _ _ _ _ _).below (uh HB1).size (fun k e => by omega))
end Go.Proofs.YtojjfdobilkknaaGreatDoor

/-
  Package word's small functions: lit, isSpecial, within, parameter.
  What is wrong is never 0.
  Package word's isBracket, run, piece, operation.
  Package word's piece and operation.
-/
import Derived.Test.YtnamfjbfcbamjaaGreatDoorP07
import Derived.Test.YtnamfjbfcbamjaaGreatDoorP10
import Derived.Test.YtnamfjbfcbamjaaGreatDoorP03
namespace Go.Proofs.YtnamfjbfcbamjaaGreatDoor
open Go.RowKit
def dblW (w : Nat) : Bool := w == 0 || w == 1 || w == 3 || w == 4
def escL (w : Nat) : List UInt8 := if w = 2 then [36, 34, 92, 96] else if w = 3 then [36, 34, 92, 96, 125] else if w = 5 then [36, 92, 96] else []
structure WEnv (w : World) : Prop where
  r0 : ∀ k, k < 6 → w.cell? ⟨0, k * 4, none⟩ = some (.bool (sngW k))
  r1 : ∀ k, k < 6 → w.cell? ⟨0, k * 4 + 1, none⟩ = some (.bool (dblW k))
  r2 : ∀ k, k < 6 → w.cell? ⟨0, k * 4 + 2, none⟩ = some (.bool (allW k))
  r3 : ∀ k, k < 6 → w.cell? ⟨0, k * 4 + 3, none⟩ = some (.string (BA (escL k)))
  sg : ∀ j, j < 16 → w.cell? ⟨1, j, none⟩ = [Value.string ⟨#[45]⟩, .int .i64 2, .string ⟨#[61]⟩, .int .i64 3, .string ⟨#[63]⟩, .int .i64 4, .string ⟨#[43]⟩, .int .i64 5, .string ⟨#[35, 35]⟩, .int .i64 7, .string ⟨#[35]⟩, .int .i64 6, .string ⟨#[37, 37]⟩, .int .i64 9, .string ⟨#[37]⟩, .int .i64 8][j]?
  max : ∃ m : Int, w.cell? ⟨2, 0, none⟩ = some (.int .i64 m)
  two : 2 < w.heap.size
theorem WEnv.below {w w1 : World} (h : WEnv w) (hb : Below 3 w w1) : WEnv w1 := by
  have h2 := h.two
  have hc : ∀ b o, b < 3 → w1.cell? ⟨b, o, none⟩ = w.cell? ⟨b, o, none⟩ := fun b o hb3 => World.cell?_of_block (w := w) (a := ⟨b, o, none⟩) (hb.block b hb3)
  obtain ⟨m, hm⟩ := h.max
  exact ⟨fun k hk => (hc _ _ (by decide)).trans (h.r0 k hk), fun k hk => (hc _ _ (by decide)).trans (h.r1 k hk), fun k hk => (hc _ _ (by decide)).trans (h.r2 k hk), fun k hk => (hc _ _ (by decide)).trans (h.r3 k hk), fun j hj => (hc _ _ (by decide)).trans (h.sg j hj), ⟨m, (hc _ _ (by decide)).trans hm⟩, Nat.lt_of_lt_of_le h2 hb.size⟩
theorem WEnv.grown {w w1 : World} {X : Nat → Prop} (h : WEnv w) (hg : GrownS w w1 X) (hx : ∀ k, X k → 3 ≤ k) : WEnv w1 :=
  h.below ⟨hg.os, hg.tape, hg.output, hg.size, fun k hk => hg.block k (by have := h.two; omega) (fun e => by have := hx k e; omega)⟩
set_option maxHeartbeats 1000000 in
theorem lit_any (t : ByteArray) (q : Bool) (w : World) : Calls Tryz.prog 76 #[.string t, .bool q] w fun e w' => e = .returned (.agg #[.int .i64 1, .string t, .bool q, .int .i64 0, .bool false, .slice none 0 0]) ∧ Below w.heap.size w w' := by
  go_enter Tryz.func76, Tryz.ntmps76
  go_wp2
  exact bodyPost_ret (v := .agg #[.int .i64 1, .string t, .bool q, .int .i64 0, .bool false, .slice none 0 0]) (by simp [results, Tryz.results76, go_sem]) rfl ⟨rfl, (Below.refl _ _).alloc (Nat.le_refl _) _⟩
theorem u48_eq {c : UInt8} (h : (c.toNat : Int) = 48) : c = 48 := by
  apply UInt8.toNat.inj
  have : c.toNat = 48 := by omega
  rw [this]; rfl
theorem ret_nat {a b : Nat} (h : a = b) : Ending.returned (.int .i64 (a : Int)) = .returned (.int .i64 (b : Int)) := by rw [h]
set_option maxHeartbeats 1000000 in
theorem within_any (k : Nat) (op : Int) (w : World) (he : WEnv w) (hk : k < 6) : Calls Tryz.prog 111 #[.int .i64 (k : Int), .int .i64 op] w fun e w' => e = .returned (.int .i64 ((withinW k op : Nat) : Int)) ∧ w' = w := by
  have r0 := he.r0 k hk
  go_enter Tryz.func111, Tryz.ntmps111
  go_wp2
  · go_ret
    exact ⟨ret_int (by unfold withinW; simp [*]), rfl⟩
  · go_ret
    exact ⟨ret_int (by unfold withinW; simp [*]), rfl⟩
  · go_ret
    exact ⟨ret_int (by unfold withinW; rw [if_neg (by simp [*]), if_neg (by omega)]; rfl), rfl⟩
theorem idx_spe (c : UInt8) : decide (0 ≤ Lib.indexByte [64, 42, 35, 63] c) = speB c := by
  unfold speB
  by_cases h1 : c = 64
  · subst h1; rfl
  by_cases h2 : c = 42
  · subst h2; rfl
  by_cases h3 : c = 35
  · subst h3; rfl
  by_cases h4 : c = 63
  · subst h4; rfl
  have e : Lib.indexByte [64, 42, 35, 63] c = -1 := by simp [Lib.indexByte, Ne.symm h1, Ne.symm h2, Ne.symm h3, Ne.symm h4]
  rw [e, beq_false_of_ne h1, beq_false_of_ne h2, beq_false_of_ne h3, beq_false_of_ne h4]
  rfl
set_option maxHeartbeats 1000000 in
theorem special_any (c : UInt8) (w : World) : Calls Tryz.prog 91 #[.int .u8 (c.toNat : Int)] w fun e w' => e = .returned (.bool (speB c)) ∧ w' = w := by
  have HI : Hid (∀ W, Calls Tryz.prog 71 #[.string ⟨#[64, 42, 35, 63]⟩, .int .u8 (c.toNat : Int)] W fun e w' => e = .returned (.int .i64 (Lib.indexByte [64, 42, 35, 63] c)) ∧ w' = W) := hide (fun W => by
    have := Tryz.strings_IndexByte ⟨#[64, 42, 35, 63]⟩ (c.toNat : Int) W
    rwa [show ((c.toNat : Int)).toNat.toUInt8 = c by simp] at this)
  rw [← idx_spe]
  obtain ⟨K, hK⟩ : ∃ x, x = Lib.indexByte [64, 42, 35, 63] c := ⟨_, rfl⟩
  rw [← hK] at HI ⊢
  clear hK
  go_enter Tryz.func91, Tryz.ntmps91
  go_wp2_with fail
  refine ((unhide HI) _).mono ?_
  rintro en w1 ⟨rfl, rfl⟩
  go_wp2
  go_ret
  exact ⟨rfl, rfl⟩
theorem head_get {s : ByteArray} (h : 0 < s.size) : s.data.toList = s[0] :: s.data.toList.drop 1 := by
  have := drop_at h
  simpa using this
theorem parN_front {l : List UInt8} (h : 0 < frontN l) : parN l = frontN l := by unfold parN; rw [if_pos h]
theorem parN_nil : parN [] = 0 := rfl
theorem parN_spe {c : UInt8} {r : List UInt8} (h : frontN (c :: r) = 0) (hs : speB c = true) : parN (c :: r) = 1 := by unfold parN; rw [if_neg (by omega)]; simp [hs]
theorem parN_dig {c : UInt8} {r : List UInt8} (h : frontN (c :: r) = 0) (hs : speB c = false) : parN (c :: r) = if 3 < spanN digB (c :: r) ∨ (1 < spanN digB (c :: r) ∧ c = 48) then 0 else spanN digB (c :: r) := by unfold parN; rw [if_neg (by omega)]; simp [hs]
set_option maxRecDepth 20000 in
set_option maxHeartbeats 4000000 in
theorem parameter_any (s : ByteArray) (w : World) (hs : s.size ≤ 100000) :
    Calls Tryz.prog 109 #[.string s] w fun e w' => e = .returned (.int .i64 (parN s.data.toList : Int)) ∧ w' = w := by
  have HF := hide (fun W => front_any s W hs)
  by_cases h0 : s.size = 0
  · have he := empty_of h0
    have hl : s.data.toList = [] := List.eq_nil_of_length_eq_zero (by simpa using h0)
    rw [frontN_empty h0] at HF
    have hfz : Hid (parN s.data.toList = 0) := hide (by rw [hl]; rfl)
    clear hl
    go_enter Tryz.func109, Tryz.ntmps109
    go_wp2_with fail
    refine (unhide HF _).mono ?_
    rintro e w1 ⟨rfl, rfl⟩
    go_wp2
    go_ret
    exact ⟨ret_int (by rw [unhide hfz]; rfl), rfl⟩
  have hlt : 0 < s.size := by omega
  have he := nonempty_of hlt
  have hl := head_get hlt
  by_cases hf : 0 < frontN s.data.toList
  · have HP := hide (parN_front hf)
    obtain ⟨n, hn⟩ : ∃ n, n = frontN s.data.toList := ⟨_, rfl⟩
    rw [← hn] at HF HP hf
    have hn0 : (0 : Int) < (n : Int) := by omega
    clear hl hn
    go_enter Tryz.func109, Tryz.ntmps109
    go_wp2_with fail
    refine (unhide HF _).mono ?_
    rintro e w1 ⟨rfl, rfl⟩
    go_wp2
    go_ret
    exact ⟨ret_int (by rw [unhide HP]), rfl⟩
  · have hf0 : frontN s.data.toList = 0 := by omega
    rw [hf0] at HF
    have hf1 : frontN (s[0] :: s.data.toList.drop 1) = 0 := by rw [← hl]; exact hf0
    rcases Bool.eq_false_or_eq_true (speB s[0]) with hsp | hsp
    · have HP := hide (parN_spe hf1 hsp)
      rw [← hl] at HP
      clear hl hf hf0 hf1
      go_enter Tryz.func109, Tryz.ntmps109
      go_wp2_with fail
      refine (unhide HF _).mono ?_
      rintro e w1 ⟨rfl, rfl⟩
      go_wp2_with fail
      refine (special_any _ _).mono ?_
      rintro e w1 ⟨rfl, rfl⟩
      go_wp2
      go_ret
      exact ⟨ret_int (by rw [unhide HP]; rfl), rfl⟩
    · have HP := hide (parN_dig hf1 hsp)
      rw [← hl] at HP
      clear hl hf hf0 hf1
      go_enter Tryz.func109, Tryz.ntmps109
      go_wp2_with fail
      refine (unhide HF _).mono ?_
      rintro e w1 ⟨rfl, rfl⟩
      go_wp2_with fail
      refine (special_any _ _).mono ?_
      rintro e w1 ⟨rfl, rfl⟩
      rw [hsp]
      go_wp2_with fail
      go_loop [4] (fun i => ∃ k : Nat, k ≤ s.size ∧ i = .int .i64 k ∧ Hid (AllTo digB s.data.toList k)) (fun i => s.size - (intOf i).toNat)
      case atStart => exact ⟨0, Nat.zero_le _, rfl, hide (fun j hj hjk => absurd hjk (by omega))⟩
      case round =>
        obtain ⟨k, hk, rfl, hall⟩ := hrel
        have HEND : Hid (spanN digB s.data.toList = k → parN s.data.toList = if 3 < k ∨ (1 < k ∧ s[0] = 48) then 0 else k) := hide (fun e => by rw [unhide HP, e])
        clear HP
        by_cases hlt2 : k < s.size
        · rcases Bool.eq_false_or_eq_true (digB (s[k].toNat : Int)) with h1 | h1
          · go_wp2_with (go_at_call 90; refine (digit_any _ _).mono ?_; rintro e w' ⟨rfl, rfl⟩)
            go_round
            case rel => exact ⟨k + 1, by omega, by go_num, hide ((unhide hall).succ (by simpa using hlt2) (by rw [data_get s k hlt2]; exact h1))⟩
            case measure => simp [intOf]; omega
          · have hst : spanN digB s.data.toList = k := spanN_stop digB s.data.toList k (by simpa using hlt2) (unhide hall) (by rw [data_get s k hlt2]; exact h1)
            have HR := hide (unhide HEND hst)
            clear HEND hst
            have h48 : s[0] = 48 ∨ s[0] ≠ 48 := by by_cases h : s[0] = 48 <;> simp [h]
            by_cases h3 : 3 < k
            · have h3' : (3 : Int) < (k : Int) := by omega
              have HV : Hid (parN s.data.toList = 0) := hide (by rw [unhide HR, if_pos (.inl h3)])
              clear HR h48
              go_wp2_with (go_at_call 90; refine (digit_any _ _).mono ?_; rintro e w' ⟨rfl, rfl⟩)
              go_ret
              exact ⟨ret_int (by rw [unhide HV]; rfl), rfl⟩
            have h3' : ¬ (3 : Int) < (k : Int) := by omega
            by_cases h1k : 1 < k
            · have h1k' : (1 : Int) < (k : Int) := by omega
              rcases h48 with h48 | h48
              · have h48' : (s[0].toNat : Int) = 48 := by rw [h48]; rfl
                have HV : Hid (parN s.data.toList = 0) := hide (by rw [unhide HR, if_pos (.inr ⟨h1k, h48⟩)])
                clear HR h48
                go_wp2_with (go_at_call 90; refine (digit_any _ _).mono ?_; rintro e w' ⟨rfl, rfl⟩)
                go_ret
                exact ⟨ret_int (by rw [unhide HV]; rfl), rfl⟩
              · have h48' : ((s[0].toNat : Int) == 48) = false := by rw [beq_eq_false_iff_ne]; exact fun e => h48 (u48_eq e)
                have HV : Hid (parN s.data.toList = k) := hide (by rw [unhide HR, if_neg (by rintro (h | ⟨h, h'⟩); exact h3 h; exact h48 h')])
                clear HR h48
                go_wp2_with (go_at_call 90; refine (digit_any _ _).mono ?_; rintro e w' ⟨rfl, rfl⟩)
                go_ret
                exact ⟨ret_int (by rw [unhide HV]), rfl⟩
            have h1k' : ¬ (1 : Int) < (k : Int) := by omega
            have HV : Hid (parN s.data.toList = k) := hide (by rw [unhide HR, if_neg (by rintro (h | ⟨h, h'⟩); exact h3 h; exact h1k h)])
            clear HR h48
            go_wp2_with (go_at_call 90; refine (digit_any _ _).mono ?_; rintro e w' ⟨rfl, rfl⟩)
            go_ret
            exact ⟨ret_int (by rw [unhide HV]), rfl⟩
        · have hst : spanN digB s.data.toList = k := by rw [spanN_all digB s.data.toList (fun j hj _ => unhide hall j hj (by simp at hj; omega))]; simp; omega
          have HR := hide (unhide HEND hst)
          clear HEND hst
          have h48 : s[0] = 48 ∨ s[0] ≠ 48 := by by_cases h : s[0] = 48 <;> simp [h]
          by_cases h3 : 3 < k
          · have h3' : (3 : Int) < (k : Int) := by omega
            have HV : Hid (parN s.data.toList = 0) := hide (by rw [unhide HR, if_pos (.inl h3)])
            clear HR h48
            go_wp2
            go_ret
            exact ⟨ret_int (by rw [unhide HV]; rfl), rfl⟩
          have h3' : ¬ (3 : Int) < (k : Int) := by omega
          by_cases h1k : 1 < k
          · have h1k' : (1 : Int) < (k : Int) := by omega
            rcases h48 with h48 | h48
            · have h48' : (s[0].toNat : Int) = 48 := by rw [h48]; rfl
              have HV : Hid (parN s.data.toList = 0) := hide (by rw [unhide HR, if_pos (.inr ⟨h1k, h48⟩)])
              clear HR h48
              go_wp2
              go_ret
              exact ⟨ret_int (by rw [unhide HV]; rfl), rfl⟩
            · have h48' : ((s[0].toNat : Int) == 48) = false := by rw [beq_eq_false_iff_ne]; exact fun e => h48 (u48_eq e)
              have HV : Hid (parN s.data.toList = k) := hide (by rw [unhide HR, if_neg (by rintro (h | ⟨h, h'⟩); exact h3 h; exact h48 h')])
              clear HR h48
              go_wp2
              go_ret
              exact ⟨ret_int (by rw [unhide HV]), rfl⟩
          have h1k' : ¬ (1 : Int) < (k : Int) := by omega
          have HV : Hid (parN s.data.toList = k) := hide (by rw [unhide HR, if_neg (by rintro (h | ⟨h, h'⟩); exact h3 h; exact h1k h)])
          clear HR h48
          go_wp2
          go_ret
          exact ⟨ret_int (by rw [unhide HV]), rfl⟩
end Go.Proofs.YtnamfjbfcbamjaaGreatDoor
namespace Go.Proofs.YtnamfjbfcbamjaaGreatDoor
def NZ : Rs → Prop
  | .ok _ => True
  | .err e _ => e ≠ 0
theorem nz_ite {c : Prop} [Decidable c] {x y : Rs} (hx : NZ x) (hy : NZ y) : NZ (if c then x else y) := by
  split
  · exact hx
  · exact hy
theorem c_nz : ∀ f : Nat, (∀ l fr e wh d, NZ (cls f l fr e wh d)) ∧ (∀ l fr e wh d, NZ (lop f l fr e wh d)) ∧ (∀ l wh d, NZ (thg f l wh d))
  | 0 => ⟨fun l fr e wh d => by rw [cls]; trivial, fun l fr e wh d => by rw [lop]; trivial, fun l wh d => by rw [thg]; trivial⟩
  | f + 1 => by
    obtain ⟨iC, iL, iT⟩ := c_nz f
    refine ⟨fun l fr e wh d => ?_, fun l fr e wh d => ?_, fun l wh d => ?_⟩
    · rw [cls_succ]
      exact nz_ite (show (3 : Int) ≠ 0 by decide) (iL _ _ _ _ _)
    · cases l with
      | nil => rw [lop_nil]; exact (show (11 : Int) ≠ 0 by decide)
      | cons c r =>
        rw [lop_succ]
        refine nz_ite trivial ?_
        have h1 := iT (c :: r) wh d
        cases hq : thg f (c :: r) wh d with
        | ok r' => exact iL r' fr e wh d
        | err x b =>
          rw [hq] at h1
          exact h1
    · cases l with
      | nil => rw [thg]; trivial
      | cons c r =>
        rw [thg_succ]
        refine nz_ite trivial (nz_ite (nz_ite trivial (iC _ _ _ _ _)) (nz_ite (nz_ite trivial ?_) (nz_ite (nz_ite (iC _ _ _ _ _) (nz_ite (iC _ _ _ _ _) trivial)) (nz_ite (nz_ite (iC _ _ _ _ _) trivial) (nz_ite (show (10 : Int) ≠ 0 by decide) trivial)))))
        split
        · exact (show (11 : Int) ≠ 0 by decide)
        · trivial
end Go.Proofs.YtnamfjbfcbamjaaGreatDoor
namespace Go.Proofs.YtnamfjbfcbamjaaGreatDoor
open Go.RowKit
theorem bcell {W w1 : World} (hb : Below W.heap.size W w1) : (∀ b o, b < W.heap.size → w1.cell? ⟨b, o, none⟩ = W.cell? ⟨b, o, none⟩) ∧ (∀ b o, b < W.heap.size → w1.frozen? ⟨b, o, none⟩ = W.frozen? ⟨b, o, none⟩) :=
  ⟨fun b o h => hb.cell (p := ⟨b, o, none⟩) h, fun b o h => hb.frozen (p := ⟨b, o, none⟩) h⟩
theorem thg_le {f : Nat} {c : UInt8} {l r : List UInt8} {wh d : Nat} (h : thg (f + 1) (c :: l) wh d = .ok r) : r.length ≤ l.length := by
  have := thg_len f c l wh d
  rw [h] at this
  exact this
theorem hasP_40 (l : List UInt8) : Lib.hasPrefix l [40] = (l.head? == some 40) := by
  cases l with
  | nil => rfl
  | cons c r => rw [hasP_one]; simp [Bool.beq_eq_decide_eq]
theorem cat36 (s : ByteArray) : ((⟨#[36]⟩ : ByteArray) ++ s).data.toList = 36 :: s.data.toList := by simp [ByteArray.data_append]
theorem cat36_size (s : ByteArray) : ((⟨#[36]⟩ : ByteArray) ++ s).size = s.size + 1 := by
  rw [ByteArray.size_append]
  show 1 + s.size = _
  omega
def pcOf (n : Nat) : Rs → Int × Int × Int
  | .ok r => (((n - r.length : Nat) : Int), 0, 0)
  | .err e m => (0, ((n - m.length : Nat) : Int), e)
theorem pieceS_of (s : ByteArray) (q : Bool) (h : 0 < s.size) : pieceS s 0 q = pcOf s.size (thg (3 * s.size + 3) s.data.toList (if q then 1 else 0) 0) := by
  unfold pieceS
  rw [if_neg (by omega)]
  simp only [Int.toNat_zero, List.drop_zero]
  cases thg (3 * s.size + 3) s.data.toList (if q then 1 else 0) 0 <;> rfl
set_option maxRecDepth 20000 in
set_option maxHeartbeats 4000000 in
theorem bracket_any (s : ByteArray) (w : World) (hs : s.size ≤ 50000) : Calls Tryz.prog 107 #[.string s] w fun e w' => e = .returned (.bool (brkB s.data.toList)) ∧ Below w.heap.size w w' := by
  have hb : brkB s.data.toList = ((s.data.toList.head? == some 40) && okNil (thg (3 * (s.size + 1) + 3) (36 :: s.data.toList) 0 0)) := by unfold brkB; rw [data_len]
  rcases Bool.eq_false_or_eq_true (s.data.toList.head? == some 40) with h4 | h4
  · have HH : Hid (∀ W, Calls Tryz.prog 123 #[.string s, .string ⟨#[40]⟩] W fun e w' => e = .returned (.bool true) ∧ w' = W) := hide (fun W => by
      have := Tryz.strings_HasPrefix s ⟨#[40]⟩ W
      rwa [show Lib.hasPrefix s.data.toList (⟨#[40]⟩ : ByteArray).data.toList = true from (hasP_40 _).trans h4] at this)
    obtain ⟨T, hT⟩ : ∃ x, x = thg (3 * (s.size + 1) + 3) (36 :: s.data.toList) 0 0 := ⟨_, rfl⟩
    have hnz : NZ T := by rw [hT]; exact (c_nz _).2.2 _ _ _
    have hle : ∀ r, T = .ok r → r.length ≤ s.size := fun r e => by
      rw [hT] at e
      have := thg_le e
      rwa [data_len] at this
    have hp : pieceS (⟨#[36]⟩ ++ s) 0 false = pcOf (s.size + 1) T := by
      rw [hT, pieceS_of _ _ (by rw [cat36_size]; omega), cat36_size, cat36]
      rfl
    have hsz : (⟨#[36]⟩ ++ s : ByteArray).size = s.size + 1 := cat36_size s
    have HP : Hid (∀ W, Calls Tryz.prog 87 #[.string (⟨#[36]⟩ ++ s), .int .i64 0, .bool false] W fun e w' => e = .returned (.tuple #[.int .i64 (pieceS (⟨#[36]⟩ ++ s) 0 false).1, .int .i64 (pieceS (⟨#[36]⟩ ++ s) 0 false).2.1, .int .i64 (pieceS (⟨#[36]⟩ ++ s) 0 false).2.2]) ∧ Below W.heap.size W w') := hide (fun W => piece_any _ 0 false W (by rw [hsz]; omega))
    rw [hp] at HP
    rw [hb, h4, ← hT]
    clear hb h4 hp hT
    rcases T with r | ⟨e, m⟩
    · have hr := hle r rfl
      obtain ⟨z, hz⟩ : ∃ z : Nat, z = s.size + 1 - r.length := ⟨_, rfl⟩
      simp only [pcOf, ← hz] at HP
      have hzz : ((z : Int) == (s.size : Int) + 1) = okNil (.ok r) := by
        cases r with
        | nil => simp at hz; simp [hz, okNil]
        | cons c r => simp at hz hr; simp [okNil]; omega
      rw [← hzz]
      clear hzz hz hle hnz hr
      go_enter Tryz.func107, Tryz.ntmps107
      go_wp2_with fail
      refine (unhide HH _).mono ?_
      rintro en w1 ⟨rfl, rfl⟩
      go_wp2_with fail
      refine (unhide HP _).mono ?_
      rintro en w1 ⟨rfl, b1⟩
      go_wp2
      go_ret
      exact ⟨ret_bool (by simp), b1⟩
    · have he : e ≠ 0 := hnz
      have he1 : (e == 0) = false := by simpa using he
      obtain ⟨z, hz⟩ : ∃ z : Nat, z = s.size + 1 - m.length := ⟨_, rfl⟩
      simp only [pcOf, ← hz] at HP
      clear hz hle hnz
      go_enter Tryz.func107, Tryz.ntmps107
      go_wp2_with fail
      refine (unhide HH _).mono ?_
      rintro en w1 ⟨rfl, rfl⟩
      go_wp2_with fail
      refine (unhide HP _).mono ?_
      rintro en w1 ⟨rfl, b1⟩
      go_wp2
      go_ret
      exact ⟨ret_bool rfl, b1⟩
  · have HH : Hid (∀ W, Calls Tryz.prog 123 #[.string s, .string ⟨#[40]⟩] W fun e w' => e = .returned (.bool false) ∧ w' = W) := hide (fun W => by
      have := Tryz.strings_HasPrefix s ⟨#[40]⟩ W
      rwa [show Lib.hasPrefix s.data.toList (⟨#[40]⟩ : ByteArray).data.toList = false from (hasP_40 _).trans h4] at this)
    rw [hb, h4]
    clear hb h4
    go_enter Tryz.func107, Tryz.ntmps107
    go_wp2_with fail
    refine (unhide HH _).mono ?_
    rintro en w1 ⟨rfl, rfl⟩
    go_wp2
    go_ret
    exact ⟨rfl, Below.refl _ _⟩
def partV (p : Prt) (v : Value) : Value := .agg #[.int .i64 p.kind, .string (BA p.text), .bool p.quote, .int .i64 p.op, .bool p.colon, v]
theorem results_part {fn : Func} {t : Tmp} (h : fn.results = #[.cell t 37]) (tmps : Array Value) (w : World) (b : Nat) (a0 a1 a2 a3 a4 a5 : Value) (ht : tmps.getD t undef = .pointer (some ⟨b, 0, none⟩)) (hb : Blk w b 37 #[a0, a1, a2, a3, a4, a5]) :
    (results fn tmps).run Tryz.prog w = .ok (.agg #[a0, a1, a2, a3, a4, a5]) w := by
  have ht' : tmps[t]?.getD undef = .pointer (some ⟨b, 0, none⟩) := by simpa using ht
  have h0 := hb.cell 0 (v := a0) rfl
  have h1 := hb.cell 1 (v := a1) rfl
  have h2 := hb.cell 2 (v := a2) rfl
  have h3 := hb.cell 3 (v := a3) rfl
  have h4 := hb.cell 4 (v := a4) rfl
  have h5 := hb.cell 5 (v := a5) rfl
  simp [results, h, ht', go_sem, h0, h1, h2, h3, h4, h5]
theorem results_part2 {fn : Func} {t u : Tmp} (h : fn.results = #[.cell t 37, .tmp u]) (tmps : Array Value) (w : World) (b : Nat) (a0 a1 a2 a3 a4 a5 x : Value) (ht : tmps.getD t undef = .pointer (some ⟨b, 0, none⟩)) (hu : tmps.getD u undef = x) (hb : Blk w b 37 #[a0, a1, a2, a3, a4, a5]) :
    (results fn tmps).run Tryz.prog w = .ok (.tuple #[.agg #[a0, a1, a2, a3, a4, a5], x]) w := by
  have ht' : tmps[t]?.getD undef = .pointer (some ⟨b, 0, none⟩) := by simpa using ht
  have hu' : tmps[u]?.getD undef = x := by simpa using hu
  have h0 := hb.cell 0 (v := a0) rfl
  have h1 := hb.cell 1 (v := a1) rfl
  have h2 := hb.cell 2 (v := a2) rfl
  have h3 := hb.cell 3 (v := a3) rfl
  have h4 := hb.cell 4 (v := a4) rfl
  have h5 := hb.cell 5 (v := a5) rfl
  simp [results, h, ht', hu', go_sem, h0, h1, h2, h3, h4, h5]
theorem blk_T6 {w : World} {b : Nat} {z0 z1 z2 z3 z4 z5 : Value} (h : Blk w b 37 #[z0, z1, z2, z3, z4, z5]) (x0 x1 x2 x3 x4 x5 : Value) : Blk (T6 w b 0 x0 x1 x2 x3 x4 x5) b 37 #[x0, x1, x2, x3, x4, x5] := by
  have := (((((h.set 0 x0).set 1 x1).set 2 x2).set 3 x3).set 4 x4).set 5 x5
  unfold T6
  simpa using this
theorem brk_len {l : List UInt8} (h : brkB l = true) : 2 ≤ l.length := by
  unfold brkB at h
  simp only [Bool.and_eq_true, beq_iff_eq] at h
  match l, h with
  | [], h => simp at h
  | [c], h =>
    obtain ⟨h1, h2⟩ := h
    simp at h1
    subst h1
    have h3 : okNil (thg (3 * ([40].length + 1) + 3) (36 :: [40]) 0 0) = false := by kernel_rfl
    exact Bool.noConfusion (h2.symm.trans h3)
  | _ :: _ :: _, _ => simp
theorem ext_mid (s : ByteArray) : s.extract 1 (s.size - 1) = BA ((s.data.toList.drop 1).dropLast) := by
  unfold BA
  apply ByteArray.ext
  rw [ByteArray.data_extract]
  apply Array.ext'
  rw [List.dropLast_eq_take]
  simp
set_option maxRecDepth 20000 in
set_option maxHeartbeats 4000000 in
theorem run_any (s : ByteArray) (w : World) (hs : s.size ≤ 50000) : Calls Tryz.prog 92 #[.string s] w fun e w' => e = .returned (partV (runP s.data.toList) (.slice none 0 0)) ∧ Below w.heap.size w w' := by
  have HB := hide (fun W => bracket_any s W hs)
  unfold runP
  rcases Bool.eq_false_or_eq_true (brkB s.data.toList) with hb | hb
  · have hl := brk_len hb
    rw [data_len] at hl
    rw [hb] at HB ⊢
    rw [if_pos rfl]
    obtain ⟨n, hn⟩ : ∃ n, s.size = n + 1 := ⟨s.size - 1, by omega⟩
    have he := ext_mid s
    rw [hn, Nat.add_sub_cancel] at he
    have HE := hide he
    have hn2 : (1 : Int) ≤ (n : Int) := by omega
    have hn1 : IntKind.i64.wrap ((s.size : Int) - 1) = (n : Int) := by rw [IntKind.wrap_i64]; omega
    clear he hb hl
    go_enter Tryz.func92, Tryz.ntmps92
    go_wp2_with fail
    refine (unhide HB _).mono ?_
    rintro en w1 ⟨rfl, b1⟩
    have HB1 := hide (((Below.refl _ w).alloc (Nat.le_refl _) _).trans (b1.mono (by simp)))
    have HZ := hide (Blk.below (Blk.new w 37 #[.int .i64 0, .string ⟨#[]⟩, .bool false, .int .i64 0, .bool false, .slice none 0 0]) b1 (by simp))
    obtain ⟨hc, hf⟩ := bcell b1
    have hz : w.heap.size < w1.heap.size := by have := b1.size; simp at this; omega
    clear b1
    go_wp2
    refine bodyPost_ret (v := partV (.mk 4 (s.extract 1 n).data.toList false 0 false []) (.slice none 0 0)) (results_part rfl _ _ w.heap.size _ _ _ _ _ _ rfl (blk_T6 (unhide HZ) (.int .i64 4) (.string (s.extract 1 n)) (.bool false) (.int .i64 0) (.bool false) (.slice none 0 0))) rfl ⟨by rw [unhide HE]; rfl, ?_⟩
    exact (unhide HB1).trans ((T6_grown w1 w.heap.size 0 _ _ _ _ _ _).below (unhide HB1).size (fun k e => by omega))
  · rw [hb] at HB ⊢
    rw [if_neg (by decide)]
    clear hb
    go_enter Tryz.func92, Tryz.ntmps92
    go_wp2_with fail
    refine (unhide HB _).mono ?_
    rintro en w1 ⟨rfl, b1⟩
    have HB1 := hide (((Below.refl _ w).alloc (Nat.le_refl _) _).trans (b1.mono (by simp)))
    have HZ := hide (Blk.below (Blk.new w 37 #[.int .i64 0, .string ⟨#[]⟩, .bool false, .int .i64 0, .bool false, .slice none 0 0]) b1 (by simp))
    obtain ⟨hc, hf⟩ := bcell b1
    have hz : w.heap.size < w1.heap.size := by have := b1.size; simp at this; omega
    clear b1
    go_wp2
    refine bodyPost_ret (v := partV (.mk 3 s.data.toList false 0 false []) (.slice none 0 0)) (results_part rfl _ _ w.heap.size _ _ _ _ _ _ rfl (blk_T6 (unhide HZ) (.int .i64 3) (.string s) (.bool false) (.int .i64 0) (.bool false) (.slice none 0 0))) rfl ⟨rfl, ?_⟩
    exact (unhide HB1).trans ((T6_grown w1 w.heap.size 0 _ _ _ _ _ _).below (unhide HB1).size (fun k e => by omega))
end Go.Proofs.YtnamfjbfcbamjaaGreatDoor
namespace Go.Proofs.YtnamfjbfcbamjaaGreatDoor
open Go.RowKit
theorem flag_true (k : Nat) (c : UInt8) (hk : k < 6) : flagW true k c = (!sngW k && !(dblW k && (c == 34))) := by
  have : k = 0 ∨ k = 1 ∨ k = 2 ∨ k = 3 ∨ k = 4 ∨ k = 5 := by omega
  rcases this with rfl | rfl | rfl | rfl | rfl | rfl <;> unfold flagW sngW dblW <;> simp
theorem beq_34 (c : UInt8) : (c == 34) = ((c.toNat : Int) == 34) := by
  by_cases h : c = 34
  · subst h; rfl
  · rw [beq_false_of_ne h, beq_false_of_ne]
    intro e
    exact h (UInt8.toNat_inj.1 (show c.toNat = 34 by omega))
set_option maxRecDepth 20000 in
set_option maxHeartbeats 4000000 in
theorem wpiece_any (k : Nat) (s : ByteArray) (w : World) (he : WEnv w) (hk : k < 6) (h0 : 0 < s.size) (hs : s.size ≤ 100000) :
    Calls Tryz.prog 74 #[.int .i64 (k : Int), .string s] w fun e w' => e = .returned (.tuple #[.int .i64 (pieceS s 0 (flagW true k s[0])).1, .int .i64 (pieceS s 0 (flagW true k s[0])).2.2]) ∧ Below w.heap.size w w' := by
  have r0 := he.r0 k hk
  have r1 := he.r1 k hk
  have r2 := he.r2 k hk
  have r3 := he.r3 k hk
  have h2 := he.two
  have hf := flag_true k s[0] hk
  rw [beq_34] at hf
  have HP := hide (fun q W => piece_any s 0 q W hs)
  have HW : Hid (∀ o, Below w.heap.size w (w.alloc o)) := hide (fun o => (Below.refl _ w).alloc (Nat.le_refl _) _)
  rw [hf]
  clear he hf
  rcases Bool.eq_false_or_eq_true (sngW k) with a1 | a1
  · rw [a1] at r0 ⊢
    go_enter Tryz.func74, Tryz.ntmps74
    go_wp2_with fail
    refine (unhide HP _ _).mono ?_
    rintro en w1 ⟨rfl, b1⟩
    go_wp2
    go_ret2
    exact ⟨rfl, (unhide HW _).trans (b1.mono (by simp))⟩
  rw [a1] at r0 ⊢
  rcases Bool.eq_false_or_eq_true (dblW k) with a2 | a2
  · rw [a2] at r1 ⊢
    rcases Bool.eq_false_or_eq_true ((s[0].toNat : Int) == 34) with a3 | a3
    · have a3' : (s[0].toNat : Int) = 34 := by simpa using a3
      rw [a3]
      go_enter Tryz.func74, Tryz.ntmps74
      go_wp2_with fail
      refine (unhide HP _ _).mono ?_
      rintro en w1 ⟨rfl, b1⟩
      go_wp2
      go_ret2
      exact ⟨rfl, (unhide HW _).trans (b1.mono (by simp))⟩
    · rw [a3]
      go_enter Tryz.func74, Tryz.ntmps74
      go_wp2_with fail
      refine (unhide HP _ _).mono ?_
      rintro en w1 ⟨rfl, b1⟩
      go_wp2
      go_ret2
      exact ⟨rfl, (unhide HW _).trans (b1.mono (by simp))⟩
  · rw [a2] at r1 ⊢
    go_enter Tryz.func74, Tryz.ntmps74
    go_wp2_with fail
    refine (unhide HP _ _).mono ?_
    rintro en w1 ⟨rfl, b1⟩
    go_wp2
    go_ret2
    exact ⟨rfl, (unhide HW _).trans (b1.mono (by simp))⟩
def sgnT : List (List UInt8 × Int) := [([45], 2), ([61], 3), ([63], 4), ([43], 5), ([35, 35], 7), ([35], 6), ([37, 37], 9), ([37], 8)]
def sgnOk (c : Bool) (t : List UInt8) (x : List UInt8 × Int) : Bool := Lib.hasPrefix t x.1 && !(c && decide (6 ≤ x.2))
def sgnFrom (c : Bool) (t : List UInt8) (k : Nat) : Option (Int × List UInt8) := ((sgnT.drop k).find? (sgnOk c t)).map (fun x => (x.2, t.drop x.1.length))
theorem sgnFrom_yes {c : Bool} {t : List UInt8} {k : Nat} {x : List UInt8 × Int} {r : List (List UInt8 × Int)} (hk : sgnT.drop k = x :: r) (h : sgnOk c t x = true) : sgnFrom c t k = some (x.2, t.drop x.1.length) := by
  unfold sgnFrom
  rw [hk, List.find?_cons, h]
  rfl
theorem sgnFrom_no {c : Bool} {t : List UInt8} {k : Nat} {x : List UInt8 × Int} {r : List (List UInt8 × Int)} (hk : sgnT.drop k = x :: r) (h : sgnOk c t x = false) : sgnFrom c t k = sgnFrom c t (k + 1) := by
  unfold sgnFrom
  rw [hk, List.find?_cons, h, ← List.drop_drop, hk]
  rfl
theorem sgn_eq (c : Bool) (t : List UInt8) : sgnFrom c t 0 = sgnL c t := by
  unfold sgnFrom sgnT sgnOk
  match t with
  | [] => cases c <;> rfl
  | [x] =>
    by_cases h1 : x = 45
    · subst h1; cases c <;> rfl
    by_cases h2 : x = 61
    · subst h2; cases c <;> rfl
    by_cases h3 : x = 63
    · subst h3; cases c <;> rfl
    by_cases h4 : x = 43
    · subst h4; cases c <;> rfl
    by_cases h5 : x = 35
    · subst h5; cases c <;> rfl
    by_cases h6 : x = 37
    · subst h6; cases c <;> rfl
    have e : sgnL c [x] = none := by unfold sgnL; split <;> simp_all
    rw [e]
    cases c <;> simp [Lib.hasPrefix, List.isPrefixOf, Ne.symm h1, Ne.symm h2, Ne.symm h3, Ne.symm h4, Ne.symm h5, Ne.symm h6]
  | x :: y :: r =>
    by_cases h1 : x = 45
    · subst h1; cases c <;> simp [Lib.hasPrefix, List.isPrefixOf, sgnL]
    by_cases h2 : x = 61
    · subst h2; cases c <;> simp [Lib.hasPrefix, List.isPrefixOf, sgnL]
    by_cases h3 : x = 63
    · subst h3; cases c <;> simp [Lib.hasPrefix, List.isPrefixOf, sgnL]
    by_cases h4 : x = 43
    · subst h4; cases c <;> simp [Lib.hasPrefix, List.isPrefixOf, sgnL]
    by_cases h5 : x = 35
    · subst h5
      by_cases h7 : y = 35
      · subst h7; cases c <;> simp [Lib.hasPrefix, List.isPrefixOf, sgnL]
      · have e : sgnL c (35 :: y :: r) = if c then none else some (6, y :: r) := by unfold sgnL; split <;> simp_all
        rw [e]
        cases c <;> simp [Lib.hasPrefix, List.isPrefixOf, Ne.symm h7]
    by_cases h6 : x = 37
    · subst h6
      by_cases h7 : y = 37
      · subst h7; cases c <;> simp [Lib.hasPrefix, List.isPrefixOf, sgnL]
      · have e : sgnL c (37 :: y :: r) = if c then none else some (8, y :: r) := by unfold sgnL; split <;> simp_all
        rw [e]
        cases c <;> simp [Lib.hasPrefix, List.isPrefixOf, Ne.symm h7]
    have e : sgnL c (x :: y :: r) = none := by unfold sgnL; split <;> simp_all
    rw [e]
    cases c <;> simp [Lib.hasPrefix, List.isPrefixOf, Ne.symm h1, Ne.symm h2, Ne.symm h3, Ne.symm h4, Ne.symm h5, Ne.symm h6]
theorem sidx0 (w : World) : (Instr.index 126 (Value.agg #[Value.string ⟨#[45]⟩, Value.int IntKind.i64 2, Value.string ⟨#[61]⟩, Value.int IntKind.i64 3, Value.string ⟨#[63]⟩, Value.int IntKind.i64 4, Value.string ⟨#[43]⟩, Value.int IntKind.i64 5, Value.string ⟨#[35, 35]⟩, Value.int IntKind.i64 7, Value.string ⟨#[35]⟩, Value.int IntKind.i64 6, Value.string ⟨#[37, 37]⟩, Value.int IntKind.i64 9, Value.string ⟨#[37]⟩, Value.int IntKind.i64 8]) (Value.int IntKind.i64 0)).run Tryz.prog w = .ok (.agg #[.string ⟨#[45]⟩, .int .i64 2]) w := by kernel_rfl
theorem sidx1 (w : World) : (Instr.index 126 (Value.agg #[Value.string ⟨#[45]⟩, Value.int IntKind.i64 2, Value.string ⟨#[61]⟩, Value.int IntKind.i64 3, Value.string ⟨#[63]⟩, Value.int IntKind.i64 4, Value.string ⟨#[43]⟩, Value.int IntKind.i64 5, Value.string ⟨#[35, 35]⟩, Value.int IntKind.i64 7, Value.string ⟨#[35]⟩, Value.int IntKind.i64 6, Value.string ⟨#[37, 37]⟩, Value.int IntKind.i64 9, Value.string ⟨#[37]⟩, Value.int IntKind.i64 8]) (Value.int IntKind.i64 1)).run Tryz.prog w = .ok (.agg #[.string ⟨#[61]⟩, .int .i64 3]) w := by kernel_rfl
theorem sidx2 (w : World) : (Instr.index 126 (Value.agg #[Value.string ⟨#[45]⟩, Value.int IntKind.i64 2, Value.string ⟨#[61]⟩, Value.int IntKind.i64 3, Value.string ⟨#[63]⟩, Value.int IntKind.i64 4, Value.string ⟨#[43]⟩, Value.int IntKind.i64 5, Value.string ⟨#[35, 35]⟩, Value.int IntKind.i64 7, Value.string ⟨#[35]⟩, Value.int IntKind.i64 6, Value.string ⟨#[37, 37]⟩, Value.int IntKind.i64 9, Value.string ⟨#[37]⟩, Value.int IntKind.i64 8]) (Value.int IntKind.i64 2)).run Tryz.prog w = .ok (.agg #[.string ⟨#[63]⟩, .int .i64 4]) w := by kernel_rfl
theorem sidx3 (w : World) : (Instr.index 126 (Value.agg #[Value.string ⟨#[45]⟩, Value.int IntKind.i64 2, Value.string ⟨#[61]⟩, Value.int IntKind.i64 3, Value.string ⟨#[63]⟩, Value.int IntKind.i64 4, Value.string ⟨#[43]⟩, Value.int IntKind.i64 5, Value.string ⟨#[35, 35]⟩, Value.int IntKind.i64 7, Value.string ⟨#[35]⟩, Value.int IntKind.i64 6, Value.string ⟨#[37, 37]⟩, Value.int IntKind.i64 9, Value.string ⟨#[37]⟩, Value.int IntKind.i64 8]) (Value.int IntKind.i64 3)).run Tryz.prog w = .ok (.agg #[.string ⟨#[43]⟩, .int .i64 5]) w := by kernel_rfl
theorem sidx4 (w : World) : (Instr.index 126 (Value.agg #[Value.string ⟨#[45]⟩, Value.int IntKind.i64 2, Value.string ⟨#[61]⟩, Value.int IntKind.i64 3, Value.string ⟨#[63]⟩, Value.int IntKind.i64 4, Value.string ⟨#[43]⟩, Value.int IntKind.i64 5, Value.string ⟨#[35, 35]⟩, Value.int IntKind.i64 7, Value.string ⟨#[35]⟩, Value.int IntKind.i64 6, Value.string ⟨#[37, 37]⟩, Value.int IntKind.i64 9, Value.string ⟨#[37]⟩, Value.int IntKind.i64 8]) (Value.int IntKind.i64 4)).run Tryz.prog w = .ok (.agg #[.string ⟨#[35, 35]⟩, .int .i64 7]) w := by kernel_rfl
theorem sidx5 (w : World) : (Instr.index 126 (Value.agg #[Value.string ⟨#[45]⟩, Value.int IntKind.i64 2, Value.string ⟨#[61]⟩, Value.int IntKind.i64 3, Value.string ⟨#[63]⟩, Value.int IntKind.i64 4, Value.string ⟨#[43]⟩, Value.int IntKind.i64 5, Value.string ⟨#[35, 35]⟩, Value.int IntKind.i64 7, Value.string ⟨#[35]⟩, Value.int IntKind.i64 6, Value.string ⟨#[37, 37]⟩, Value.int IntKind.i64 9, Value.string ⟨#[37]⟩, Value.int IntKind.i64 8]) (Value.int IntKind.i64 5)).run Tryz.prog w = .ok (.agg #[.string ⟨#[35]⟩, .int .i64 6]) w := by kernel_rfl
theorem sidx6 (w : World) : (Instr.index 126 (Value.agg #[Value.string ⟨#[45]⟩, Value.int IntKind.i64 2, Value.string ⟨#[61]⟩, Value.int IntKind.i64 3, Value.string ⟨#[63]⟩, Value.int IntKind.i64 4, Value.string ⟨#[43]⟩, Value.int IntKind.i64 5, Value.string ⟨#[35, 35]⟩, Value.int IntKind.i64 7, Value.string ⟨#[35]⟩, Value.int IntKind.i64 6, Value.string ⟨#[37, 37]⟩, Value.int IntKind.i64 9, Value.string ⟨#[37]⟩, Value.int IntKind.i64 8]) (Value.int IntKind.i64 6)).run Tryz.prog w = .ok (.agg #[.string ⟨#[37, 37]⟩, .int .i64 9]) w := by kernel_rfl
theorem sidx7 (w : World) : (Instr.index 126 (Value.agg #[Value.string ⟨#[45]⟩, Value.int IntKind.i64 2, Value.string ⟨#[61]⟩, Value.int IntKind.i64 3, Value.string ⟨#[63]⟩, Value.int IntKind.i64 4, Value.string ⟨#[43]⟩, Value.int IntKind.i64 5, Value.string ⟨#[35, 35]⟩, Value.int IntKind.i64 7, Value.string ⟨#[35]⟩, Value.int IntKind.i64 6, Value.string ⟨#[37, 37]⟩, Value.int IntKind.i64 9, Value.string ⟨#[37]⟩, Value.int IntKind.i64 8]) (Value.int IntKind.i64 7)).run Tryz.prog w = .ok (.agg #[.string ⟨#[37]⟩, .int .i64 8]) w := by kernel_rfl
theorem colon_has (l : List UInt8) : Lib.hasPrefix l [58] = colonL l := by
  unfold colonL
  cases l with
  | nil => rfl
  | cons c r => rw [hasP_one]; simp [Bool.beq_eq_decide_eq]
theorem colon_trim (l : List UInt8) : Lib.trimPrefix l [58] = behindL l := by
  unfold behindL Lib.trimPrefix
  rw [colon_has]
  rfl
def PBk (w : World) (b : Nat) (k0 t0 q0 v0 : Value) (o : Int) (c : Bool) : Prop := Blk w b 37 #[k0, t0, q0, .int .i64 o, .bool c, v0]
theorem PBk.colon {w : World} {b : Nat} {k0 t0 q0 v0 : Value} {o : Int} {c : Bool} (h : PBk w b k0 t0 q0 v0 o c) (c' : Bool) : PBk (w.setCell ⟨b, 4, none⟩ (.bool c')) b k0 t0 q0 v0 o c' := by
  have := Blk.set h 4 (.bool c')
  simpa [PBk] using this
theorem PBk.opn {w : World} {b : Nat} {k0 t0 q0 v0 : Value} {o : Int} {c : Bool} (h : PBk w b k0 t0 q0 v0 o c) (o' : Int) : PBk (w.setCell ⟨b, 3, none⟩ (.int .i64 o')) b k0 t0 q0 v0 o' c := by
  have := Blk.set h 3 (.int .i64 o')
  simpa [PBk] using this
def OpEnd (w : World) (b : Nat) (k0 t0 q0 v0 : Value) (l : List UInt8) (en : Ending) (w' : World) : Prop :=
  match sgnL (colonL l) (behindL l) with
  | none => en = .returned (.tuple #[.string ⟨#[]⟩, .bool false]) ∧ GrownS w w' (fun k => k = b)
  | some (o, r) => en = .returned (.tuple #[.string (BA r), .bool true]) ∧ GrownS w w' (fun k => k = b) ∧ PBk w' b k0 t0 q0 v0 o (colonL l)
theorem opEnd_none {w w' : World} {b : Nat} {k0 t0 q0 v0 : Value} {l : List UInt8} {en : Ending} (h : none = sgnL (colonL l) (behindL l)) (h1 : en = .returned (.tuple #[.string ⟨#[]⟩, .bool false])) (h2 : GrownS w w' (fun k => k = b)) : OpEnd w b k0 t0 q0 v0 l en w' := by
  unfold OpEnd
  rw [← h]
  exact ⟨h1, h2⟩
theorem opEnd_some {w w' : World} {b : Nat} {k0 t0 q0 v0 : Value} {l r : List UInt8} {o : Int} {en : Ending} (h : some (o, r) = sgnL (colonL l) (behindL l)) (h1 : en = .returned (.tuple #[.string (BA r), .bool true])) (h2 : GrownS w w' (fun k => k = b)) (h3 : PBk w' b k0 t0 q0 v0 o (colonL l)) : OpEnd w b k0 t0 q0 v0 l en w' := by
  unfold OpEnd
  rw [← h]
  exact ⟨h1, h2, h3⟩
set_option maxRecDepth 20000 in
set_option maxHeartbeats 8000000 in
theorem operation_any (l : List UInt8) (b : Nat) (k0 t0 q0 v0 : Value) (o0 : Int) (c0 : Bool) (w : World) (he : WEnv w) (hb : PBk w b k0 t0 q0 v0 o0 c0) (hb3 : 3 ≤ b) :
    Calls Tryz.prog 110 #[.pointer (some ⟨b, 0, none⟩), .string (BA l)] w fun e w' => OpEnd w b k0 t0 q0 v0 l e w' := by
  have HC : Hid (∀ W, Calls Tryz.prog 108 #[.string (BA l), .string ⟨#[58]⟩] W fun e w' => e = .returned (.tuple #[.string (BA (behindL l)), .bool (colonL l)]) ∧ w' = W) := hide (fun W => by
    have := Tryz.strings_CutPrefix (BA l) ⟨#[58]⟩ W
    rw [show Lib.hasPrefix (BA l).data.toList (⟨#[58]⟩ : ByteArray).data.toList = colonL l from colon_has l, show Lib.trimPrefix (BA l).data.toList (⟨#[58]⟩ : ByteArray).data.toList = behindL l from colon_trim l] at this
    exact this)
  have b4 : w.cell? ⟨b, 4, none⟩ = some (.bool c0) := Blk.cell hb 4 rfl
  have z4 : w.frozen? ⟨b, 4, none⟩ = false := Blk.frozen hb 4
  have HB1 := hide (hb.colon (colonL l))
  have HG1 := hide (setb_grown w b 4 (.bool (colonL l)))
  have HE : Hid (∀ l e w', OpEnd w b k0 t0 q0 v0 l e w' → OpEnd w b k0 t0 q0 v0 l e w') := hide (fun _ _ _ h => h)
  obtain ⟨c, hc⟩ : ∃ c, c = colonL l := ⟨_, rfl⟩
  obtain ⟨t, ht⟩ : ∃ t, t = behindL l := ⟨_, rfl⟩
  rw [← hc] at HC HB1 HG1
  rw [← ht] at HC
  have hS0 : sgnFrom c t 0 = sgnL (colonL l) (behindL l) := by rw [hc, ht]; exact sgn_eq _ _
  have HC2 := hide hc
  have hcells : ∀ j, j < 16 → (w.setCell ⟨b, 4, none⟩ (.bool c)).cell? ⟨1, j, none⟩ = _ := fun j hj => (World.cell?_of_block (w := w) (a := ⟨1, j, none⟩) (Below.heap_setCell w ⟨b, 4, none⟩ (.bool c) 1 (by show _ ≠ b; omega))).trans (he.sg j hj)
  have a0 := hcells 0 (by decide)
  have a1 := hcells 1 (by decide)
  have a2 := hcells 2 (by decide)
  have a3 := hcells 3 (by decide)
  have a4 := hcells 4 (by decide)
  have a5 := hcells 5 (by decide)
  have a6 := hcells 6 (by decide)
  have a7 := hcells 7 (by decide)
  have a8 := hcells 8 (by decide)
  have a9 := hcells 9 (by decide)
  have a10 := hcells 10 (by decide)
  have a11 := hcells 11 (by decide)
  have a12 := hcells 12 (by decide)
  have a13 := hcells 13 (by decide)
  have a14 := hcells 14 (by decide)
  have a15 := hcells 15 (by decide)
  simp only [List.getElem?_cons_zero, List.getElem?_cons_succ] at a0 a1 a2 a3 a4 a5 a6 a7 a8 a9 a10 a11 a12 a13 a14 a15
  have HS0 := hide hS0
  clear hcells hS0 hb he hc ht
  go_enter Tryz.func110, Tryz.ntmps110
  go_wp2_with fail
  refine (unhide HC _).mono ?_
  rintro en w1 ⟨rfl, hw1⟩
  have hw2 := hw1.symm
  subst hw2
  clear hw1
  go_wp2_with fail
  go_loopw [19] (fun x wr => ∃ k : Int, x = .int .i64 k ∧ 0 ≤ k ∧ k ≤ 8 ∧ Hid (sgnFrom c t k.toNat = sgnL (colonL l) (behindL l)) ∧ Hid (PBk wr b k0 t0 q0 v0 o0 c ∧ GrownS w wr (fun j => j = b))) (fun x _ => 8 - (intOf x).toNat)
  case atStart => exact ⟨0, rfl, by decide, by decide, HS0, hide ⟨unhide HB1, unhide HG1⟩⟩
  case round =>
    clear a0 a1 a2 a3 a4 a5 a6 a7 a8 a9 a10 a11 a12 a13 a14 a15 b4 z4 HS0 HC HB1 HG1
    obtain ⟨k, rfl, hk0, hk1, HK, HW⟩ := hrel
    by_cases hk8 : k = 8
    · subst hk8
      have HR : Hid (none = sgnL (colonL l) (behindL l)) := HK
      clear HK
      go_wp2
      go_ret2
      exact opEnd_none (unhide HR) rfl (unhide HW).2
    have hcs : k = 0 ∨ k = 1 ∨ k = 2 ∨ k = 3 ∨ k = 4 ∨ k = 5 ∨ k = 6 ∨ k = 7 := by omega
    clear hk0 hk1 hk8
    have b4 : wr.cell? ⟨b, 4, none⟩ = some (.bool c) := Blk.cell (unhide HW).1 4 rfl
    have b3 : wr.cell? ⟨b, 3, none⟩ = some (.int .i64 o0) := Blk.cell (unhide HW).1 3 rfl
    have z3 : wr.frozen? ⟨b, 3, none⟩ = false := Blk.frozen (unhide HW).1 3
    have hbl : b < wr.heap.size := Blk.lt (unhide HW).1
    have HAL : Hid (∀ o, PBk (wr.alloc o) b k0 t0 q0 v0 o0 c ∧ GrownS w (wr.alloc o) (fun j => j = b)) := hide (fun o => ⟨Blk.alloc (unhide HW).1 o, (unhide HW).2.trans (GrownS.of (World.grownBy_alloc wr o none) (by simp))⟩)
    have HAL2 : Hid (∀ (o : Obj) (o' : Int), PBk ((wr.setCell ⟨b, 3, none⟩ (.int .i64 o')).alloc o) b k0 t0 q0 v0 o' c ∧ GrownS w ((wr.setCell ⟨b, 3, none⟩ (.int .i64 o')).alloc o) (fun j => j = b)) := hide (fun o o' => ⟨Blk.alloc ((unhide HW).1.opn o') o, ((unhide HW).2.trans (setb_grown _ b 3 _)).trans (GrownS.of (World.grownBy_alloc _ o none) (by simp))⟩)
    have HCP : Hid (∀ W (x : ByteArray), Calls Tryz.prog 108 #[.string (BA t), .string x] W fun e w' => e = .returned (.tuple #[.string ⟨(Lib.trimPrefix t x.data.toList).toArray⟩, .bool (Lib.hasPrefix t x.data.toList)]) ∧ w' = W) := hide (fun W x => Tryz.strings_CutPrefix (BA t) x W)
    rcases hcs with rfl | rfl | rfl | rfl | rfl | rfl | rfl | rfl
    all_goals
      have hidx0 := sidx0 wr
      have hidx1 := sidx1 wr
      have hidx2 := sidx2 wr
      have hidx3 := sidx3 wr
      have hidx4 := sidx4 wr
      have hidx5 := sidx5 wr
      have hidx6 := sidx6 wr
      have hidx7 := sidx7 wr
      go_wp2_with fail
      refine (unhide HCP _ _).mono ?_
      rintro en w4 ⟨rfl, hw4⟩
      have hw5 := hw4.symm
      subst hw5
      clear hw4 hidx0 hidx1 hidx2 hidx3 hidx4 hidx5 hidx6 hidx7
      generalize hv : Lib.hasPrefix t _ = v
      generalize htt : Lib.trimPrefix t _ = tt
      have HTT := hide htt
      clear htt
      cases v
      · have HN := hide ((sgnFrom_no (c := c) (t := t) rfl (by unfold sgnOk; rw [show Lib.hasPrefix t _ = false from hv, Bool.false_and])).symm.trans (unhide HK))
        clear hv
        go_wp2
        go_roundw
        case rel => exact ⟨_, rfl, by decide, by decide, HN, hide (unhide HAL _)⟩
        case measure => simp [intOf]
      · cases c
        · have HY := hide ((sgnFrom_yes (c := false) (t := t) rfl (by unfold sgnOk; rw [show Lib.hasPrefix t _ = true from hv] <;> rfl)).symm.trans (unhide HK))
          have HT2 := hide ((show Lib.trimPrefix t _ = _ from by unfold Lib.trimPrefix; rw [show Lib.hasPrefix t _ = true from hv] <;> rfl).symm.trans (unhide HTT))
          clear hv
          go_wp2
          go_ret2
          refine opEnd_some (unhide HY) ?_ (unhide HAL2 _ _).2 (by rw [← unhide HC2]; exact (unhide HAL2 _ _).1)
          rw [← unhide HT2]
          rfl
        · first
          | (have HY := hide ((sgnFrom_yes (c := true) (t := t) rfl (by unfold sgnOk; rw [show Lib.hasPrefix t _ = true from hv] <;> rfl)).symm.trans (unhide HK))
             have HT2 := hide ((show Lib.trimPrefix t _ = _ from by unfold Lib.trimPrefix; rw [show Lib.hasPrefix t _ = true from hv] <;> rfl).symm.trans (unhide HTT))
             clear hv
             go_wp2
             go_ret2
             refine opEnd_some (unhide HY) ?_ (unhide HAL2 _ _).2 (by rw [← unhide HC2]; exact (unhide HAL2 _ _).1)
             rw [← unhide HT2]
             rfl)
          | (have HN := hide ((sgnFrom_no (c := true) (t := t) rfl (by unfold sgnOk; rw [show Lib.hasPrefix t _ = true from hv] <;> rfl)).symm.trans (unhide HK))
             clear hv
             go_wp2
             go_roundw
             case rel => exact ⟨_, rfl, by decide, by decide, HN, hide (unhide HAL _)⟩
             case measure => simp [intOf])
end Go.Proofs.YtnamfjbfcbamjaaGreatDoor

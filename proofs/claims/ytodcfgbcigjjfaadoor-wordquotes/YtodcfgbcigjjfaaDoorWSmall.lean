/-
  Package word's small functions: lit, isSpecial, within, parameter.
-/
import Derived.Test.YtodcfgbcigjjfaaDoorWMem
import Derived.Test.YtodcfgbcigjjfaaDoorGrown
namespace Go.Proofs.YtodcfgbcigjjfaaDoor
open Go.RowKit

def dblW (w : Nat) : Bool := w == 0 || w == 1 || w == 3 || w == 4
def escL (w : Nat) : List UInt8 := if w = 2 then [36, 34, 92, 96] else if w = 3 then [36, 34, 92, 96, 125] else if w = 5 then [36, 92, 96] else []
/-- What the walks ask of the world: the rules of the ways, the signs, and the greatest length of a text that is searched at once. -/
structure WEnv (w : World) : Prop where
  r0 : ∀ k, k < 6 → w.cell? ⟨0, k * 4, none⟩ = some (.bool (sngW k))
  r1 : ∀ k, k < 6 → w.cell? ⟨0, k * 4 + 1, none⟩ = some (.bool (dblW k))
  r2 : ∀ k, k < 6 → w.cell? ⟨0, k * 4 + 2, none⟩ = some (.bool (allW k))
  r3 : ∀ k, k < 6 → w.cell? ⟨0, k * 4 + 3, none⟩ = some (.string (BA (escL k)))
  sg : ∀ j, j < 16 → w.cell? ⟨1, j, none⟩ = [Value.string ⟨#[45]⟩, .int .i64 2, .string ⟨#[61]⟩, .int .i64 3, .string ⟨#[63]⟩, .int .i64 4, .string ⟨#[43]⟩, .int .i64 5, .string ⟨#[35, 35]⟩, .int .i64 7, .string ⟨#[35]⟩, .int .i64 6, .string ⟨#[37, 37]⟩, .int .i64 9, .string ⟨#[37]⟩, .int .i64 8][j]?
  max : ∃ m : Int, w.cell? ⟨2, 0, none⟩ = some (.int .i64 m)
  two : 2 < w.heap.size
theorem WEnv.below {w w1 : World} (h : WEnv w) (hb : Below 3 w w1) : WEnv w1 := by
  have h2 := h.two
  have hc : ∀ b o, b < 3 → w1.cell? ⟨b, o, none⟩ = w.cell? ⟨b, o, none⟩ := fun b o hb3 => World.cell?_of_block (w := w) (a := ⟨b, o, none⟩) (hb.block b hb3)
  obtain ⟨m, hm⟩ := h.max
  exact ⟨fun k hk => (hc _ _ (by decide)).trans (h.r0 k hk), fun k hk => (hc _ _ (by decide)).trans (h.r1 k hk), fun k hk => (hc _ _ (by decide)).trans (h.r2 k hk), fun k hk => (hc _ _ (by decide)).trans (h.r3 k hk), fun j hj => (hc _ _ (by decide)).trans (h.sg j hj), ⟨m, (hc _ _ (by decide)).trans hm⟩, Nat.lt_of_lt_of_le h2 hb.size⟩
theorem WEnv.grown {w w1 : World} {X : Nat → Prop} (h : WEnv w) (hg : GrownS w w1 X) (hx : ∀ k, X k → 3 ≤ k) : WEnv w1 :=
  h.below ⟨hg.os, hg.tape, hg.output, hg.size, fun k hk => hg.block k (by have := h.two; omega) (fun e => by have := hx k e; omega)⟩

set_option maxHeartbeats 1000000 in
theorem lit_any (t : ByteArray) (q : Bool) (w : World) : Calls Tryd.prog 54 #[.string t, .bool q] w fun e w' => e = .returned (.agg #[.int .i64 1, .string t, .bool q, .int .i64 0, .bool false, .slice none 0 0]) ∧ Below w.heap.size w w' := by
  go_enter Tryd.func54, Tryd.ntmps54
  go_wp2
  exact bodyPost_ret (v := .agg #[.int .i64 1, .string t, .bool q, .int .i64 0, .bool false, .slice none 0 0]) (by simp [results, Tryd.results54, go_sem]) rfl ⟨rfl, (Below.refl _ _).alloc (Nat.le_refl _) _⟩
theorem u48_eq {c : UInt8} (h : (c.toNat : Int) = 48) : c = 48 := by
  apply UInt8.toNat.inj
  have : c.toNat = 48 := by omega
  rw [this]; rfl
theorem ret_nat {a b : Nat} (h : a = b) : Ending.returned (.int .i64 (a : Int)) = .returned (.int .i64 (b : Int)) := by rw [h]
set_option maxHeartbeats 1000000 in
theorem within_any (k : Nat) (op : Int) (w : World) (he : WEnv w) (hk : k < 6) : Calls Tryd.prog 90 #[.int .i64 (k : Int), .int .i64 op] w fun e w' => e = .returned (.int .i64 ((withinW k op : Nat) : Int)) ∧ w' = w := by
  have r0 := he.r0 k hk
  go_enter Tryd.func90, Tryd.ntmps90
  go_wp2
  · go_ret
    exact ⟨ret_int (by unfold withinW; simp [*]), rfl⟩
  · go_ret
    exact ⟨ret_int (by unfold withinW; simp [*]), rfl⟩
  · go_ret
    exact ⟨ret_int (by unfold withinW; rw [if_neg (by simp [*]), if_neg (by omega)]; rfl), rfl⟩
theorem idx_spe (c : UInt8) : decide (0 ≤ Lib.indexByte [64, 42, 35, 63] c) = speB c := by
  unfold speB
  by_cases h1 : c = 64
  · subst h1; rfl
  by_cases h2 : c = 42
  · subst h2; rfl
  by_cases h3 : c = 35
  · subst h3; rfl
  by_cases h4 : c = 63
  · subst h4; rfl
  have e : Lib.indexByte [64, 42, 35, 63] c = -1 := by simp [Lib.indexByte, Ne.symm h1, Ne.symm h2, Ne.symm h3, Ne.symm h4]
  rw [e, beq_false_of_ne h1, beq_false_of_ne h2, beq_false_of_ne h3, beq_false_of_ne h4]
  rfl
set_option maxHeartbeats 1000000 in
theorem special_any (c : UInt8) (w : World) : Calls Tryd.prog 71 #[.int .u8 (c.toNat : Int)] w fun e w' => e = .returned (.bool (speB c)) ∧ w' = w := by
  have HI : Hid (∀ W, Calls Tryd.prog 42 #[.string ⟨#[64, 42, 35, 63]⟩, .int .u8 (c.toNat : Int)] W fun e w' => e = .returned (.int .i64 (Lib.indexByte [64, 42, 35, 63] c)) ∧ w' = W) := hide (fun W => by
    have := Tryd.strings_IndexByte ⟨#[64, 42, 35, 63]⟩ (c.toNat : Int) W
    rwa [show ((c.toNat : Int)).toNat.toUInt8 = c by simp] at this)
  rw [← idx_spe]
  obtain ⟨K, hK⟩ : ∃ x, x = Lib.indexByte [64, 42, 35, 63] c := ⟨_, rfl⟩
  rw [← hK] at HI ⊢
  clear hK
  go_enter Tryd.func71, Tryd.ntmps71
  go_wp2_with fail
  refine ((unhide HI) _).mono ?_
  rintro en w1 ⟨rfl, rfl⟩
  go_wp2
  go_ret
  exact ⟨rfl, rfl⟩

theorem head_get {s : ByteArray} (h : 0 < s.size) : s.data.toList = s[0] :: s.data.toList.drop 1 := by
  have := drop_at h
  simpa using this
theorem parN_front {l : List UInt8} (h : 0 < frontN l) : parN l = frontN l := by unfold parN; rw [if_pos h]
theorem parN_nil : parN [] = 0 := rfl
theorem parN_spe {c : UInt8} {r : List UInt8} (h : frontN (c :: r) = 0) (hs : speB c = true) : parN (c :: r) = 1 := by unfold parN; rw [if_neg (by omega)]; simp [hs]
theorem parN_dig {c : UInt8} {r : List UInt8} (h : frontN (c :: r) = 0) (hs : speB c = false) : parN (c :: r) = if 3 < spanN digB (c :: r) ∨ (1 < spanN digB (c :: r) ∧ c = 48) then 0 else spanN digB (c :: r) := by unfold parN; rw [if_neg (by omega)]; simp [hs]

set_option maxRecDepth 20000 in
set_option maxHeartbeats 4000000 in
theorem parameter_any (s : ByteArray) (w : World) (hs : s.size ≤ 100000) :
    Calls Tryd.prog 88 #[.string s] w fun e w' => e = .returned (.int .i64 (parN s.data.toList : Int)) ∧ w' = w := by
  have HF := hide (fun W => front_any s W hs)
  by_cases h0 : s.size = 0
  · have he := empty_of h0
    have hl : s.data.toList = [] := List.eq_nil_of_length_eq_zero (by simpa using h0)
    rw [frontN_empty h0] at HF
    have hfz : Hid (parN s.data.toList = 0) := hide (by rw [hl]; rfl)
    clear hl
    go_enter Tryd.func88, Tryd.ntmps88
    go_wp2_with fail
    refine (unhide HF _).mono ?_
    rintro e w1 ⟨rfl, rfl⟩
    go_wp2
    go_ret
    exact ⟨ret_int (by rw [unhide hfz]; rfl), rfl⟩
  have hlt : 0 < s.size := by omega
  have he := nonempty_of hlt
  have hl := head_get hlt
  by_cases hf : 0 < frontN s.data.toList
  · have HP := hide (parN_front hf)
    obtain ⟨n, hn⟩ : ∃ n, n = frontN s.data.toList := ⟨_, rfl⟩
    rw [← hn] at HF HP hf
    have hn0 : (0 : Int) < (n : Int) := by omega
    clear hl hn
    go_enter Tryd.func88, Tryd.ntmps88
    go_wp2_with fail
    refine (unhide HF _).mono ?_
    rintro e w1 ⟨rfl, rfl⟩
    go_wp2
    go_ret
    exact ⟨ret_int (by rw [unhide HP]), rfl⟩
  · have hf0 : frontN s.data.toList = 0 := by omega
    rw [hf0] at HF
    have hf1 : frontN (s[0] :: s.data.toList.drop 1) = 0 := by rw [← hl]; exact hf0
    rcases Bool.eq_false_or_eq_true (speB s[0]) with hsp | hsp
    · have HP := hide (parN_spe hf1 hsp)
      rw [← hl] at HP
      clear hl hf hf0 hf1
      go_enter Tryd.func88, Tryd.ntmps88
      go_wp2_with fail
      refine (unhide HF _).mono ?_
      rintro e w1 ⟨rfl, rfl⟩
      go_wp2_with fail
      refine (special_any _ _).mono ?_
      rintro e w1 ⟨rfl, rfl⟩
      go_wp2
      go_ret
      exact ⟨ret_int (by rw [unhide HP]; rfl), rfl⟩
    · have HP := hide (parN_dig hf1 hsp)
      rw [← hl] at HP
      clear hl hf hf0 hf1
      go_enter Tryd.func88, Tryd.ntmps88
      go_wp2_with fail
      refine (unhide HF _).mono ?_
      rintro e w1 ⟨rfl, rfl⟩
      go_wp2_with fail
      refine (special_any _ _).mono ?_
      rintro e w1 ⟨rfl, rfl⟩
      rw [hsp]
      go_wp2_with fail
      go_loop [4] (fun i => ∃ k : Nat, k ≤ s.size ∧ i = .int .i64 k ∧ Hid (AllTo digB s.data.toList k)) (fun i => s.size - (intOf i).toNat)
      case atStart => exact ⟨0, Nat.zero_le _, rfl, hide (fun j hj hjk => absurd hjk (by omega))⟩
      case round =>
        obtain ⟨k, hk, rfl, hall⟩ := hrel
        have HEND : Hid (spanN digB s.data.toList = k → parN s.data.toList = if 3 < k ∨ (1 < k ∧ s[0] = 48) then 0 else k) := hide (fun e => by rw [unhide HP, e])
        clear HP
        by_cases hlt2 : k < s.size
        · rcases Bool.eq_false_or_eq_true (digB (s[k].toNat : Int)) with h1 | h1
          · go_wp2_with (go_at_call 70; refine (digit_any _ _).mono ?_; rintro e w' ⟨rfl, rfl⟩)
            go_round
            case rel => exact ⟨k + 1, by omega, by go_num, hide ((unhide hall).succ (by simpa using hlt2) (by rw [data_get s k hlt2]; exact h1))⟩
            case measure => simp [intOf]; omega
          · have hst : spanN digB s.data.toList = k := spanN_stop digB s.data.toList k (by simpa using hlt2) (unhide hall) (by rw [data_get s k hlt2]; exact h1)
            have HR := hide (unhide HEND hst)
            clear HEND hst
            have h48 : s[0] = 48 ∨ s[0] ≠ 48 := by by_cases h : s[0] = 48 <;> simp [h]
            by_cases h3 : 3 < k
            · have h3' : (3 : Int) < (k : Int) := by omega
              have HV : Hid (parN s.data.toList = 0) := hide (by rw [unhide HR, if_pos (.inl h3)])
              clear HR h48
              go_wp2_with (go_at_call 70; refine (digit_any _ _).mono ?_; rintro e w' ⟨rfl, rfl⟩)
              go_ret
              exact ⟨ret_int (by rw [unhide HV]; rfl), rfl⟩
            have h3' : ¬ (3 : Int) < (k : Int) := by omega
            by_cases h1k : 1 < k
            · have h1k' : (1 : Int) < (k : Int) := by omega
              rcases h48 with h48 | h48
              · have h48' : (s[0].toNat : Int) = 48 := by rw [h48]; rfl
                have HV : Hid (parN s.data.toList = 0) := hide (by rw [unhide HR, if_pos (.inr ⟨h1k, h48⟩)])
                clear HR h48
                go_wp2_with (go_at_call 70; refine (digit_any _ _).mono ?_; rintro e w' ⟨rfl, rfl⟩)
                go_ret
                exact ⟨ret_int (by rw [unhide HV]; rfl), rfl⟩
              · have h48' : ((s[0].toNat : Int) == 48) = false := by rw [beq_eq_false_iff_ne]; exact fun e => h48 (u48_eq e)
                have HV : Hid (parN s.data.toList = k) := hide (by rw [unhide HR, if_neg (by rintro (h | ⟨h, h'⟩); exact h3 h; exact h48 h')])
                clear HR h48
                go_wp2_with (go_at_call 70; refine (digit_any _ _).mono ?_; rintro e w' ⟨rfl, rfl⟩)
                go_ret
                exact ⟨ret_int (by rw [unhide HV]), rfl⟩
            have h1k' : ¬ (1 : Int) < (k : Int) := by omega
            have HV : Hid (parN s.data.toList = k) := hide (by rw [unhide HR, if_neg (by rintro (h | ⟨h, h'⟩); exact h3 h; exact h1k h)])
            clear HR h48
            go_wp2_with (go_at_call 70; refine (digit_any _ _).mono ?_; rintro e w' ⟨rfl, rfl⟩)
            go_ret
            exact ⟨ret_int (by rw [unhide HV]), rfl⟩
        · have hst : spanN digB s.data.toList = k := by rw [spanN_all digB s.data.toList (fun j hj _ => unhide hall j hj (by simp at hj; omega))]; simp; omega
          have HR := hide (unhide HEND hst)
          clear HEND hst
          have h48 : s[0] = 48 ∨ s[0] ≠ 48 := by by_cases h : s[0] = 48 <;> simp [h]
          by_cases h3 : 3 < k
          · have h3' : (3 : Int) < (k : Int) := by omega
            have HV : Hid (parN s.data.toList = 0) := hide (by rw [unhide HR, if_pos (.inl h3)])
            clear HR h48
            go_wp2
            go_ret
            exact ⟨ret_int (by rw [unhide HV]; rfl), rfl⟩
          have h3' : ¬ (3 : Int) < (k : Int) := by omega
          by_cases h1k : 1 < k
          · have h1k' : (1 : Int) < (k : Int) := by omega
            rcases h48 with h48 | h48
            · have h48' : (s[0].toNat : Int) = 48 := by rw [h48]; rfl
              have HV : Hid (parN s.data.toList = 0) := hide (by rw [unhide HR, if_pos (.inr ⟨h1k, h48⟩)])
              clear HR h48
              go_wp2
              go_ret
              exact ⟨ret_int (by rw [unhide HV]; rfl), rfl⟩
            · have h48' : ((s[0].toNat : Int) == 48) = false := by rw [beq_eq_false_iff_ne]; exact fun e => h48 (u48_eq e)
              have HV : Hid (parN s.data.toList = k) := hide (by rw [unhide HR, if_neg (by rintro (h | ⟨h, h'⟩); exact h3 h; exact h48 h')])
              clear HR h48
              go_wp2
              go_ret
              exact ⟨ret_int (by rw [unhide HV]), rfl⟩
          have h1k' : ¬ (1 : Int) < (k : Int) := by omega
          have HV : Hid (parN s.data.toList = k) := hide (by rw [unhide HR, if_neg (by rintro (h | ⟨h, h'⟩); exact h3 h; exact h1k h)])
          clear HR h48
          go_wp2
          go_ret
          exact ⟨ret_int (by rw [unhide HV]), rfl⟩

end Go.Proofs.YtodcfgbcigjjfaaDoor

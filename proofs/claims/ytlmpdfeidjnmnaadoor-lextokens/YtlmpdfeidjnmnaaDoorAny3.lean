/-
  'strings.ContainsAny' with a backslash, a quote and double quotes, at any bytes.
-/
import Derived.Test.YtlmpdfeidjnmnaaDoorLexL
import Derived.Laws.RangeAny
import Derived.Laws.Runes
import Derived.Deep.LoopGhost
import Derived.WalkMore
namespace Go.Proofs.YtlmpdfeidjnmnaaDoor
open Go.RowKit

theorem idx_high (l : List UInt8) (c : UInt8) (hl : ∀ b ∈ l, b.toNat < 128) (hc : 128 ≤ c.toNat) : Lib.indexByte l c = -1 := by
  induction l with
  | nil => rfl
  | cons b l ih =>
    have hb : (b == c) = false := by
      rw [beq_eq_false_iff_ne]
      intro e
      have := hl b (by simp)
      rw [e] at this
      omega
    rw [Lib.indexByte, hb, ih (fun x hx => hl x (by simp [hx]))]
    rfl
theorem three_low : ∀ b ∈ ([92, 39, 34] : List UInt8), b.toNat < 128 := by decide

set_option maxRecDepth 20000 in
set_option maxHeartbeats 4000000 in
theorem rune_err (w : World) :
    Calls Tryd.prog 83 #[.string ⟨#[92, 39, 34]⟩, .int .i32 65533] w fun e w' => e = .returned (.int .i64 (-1)) ∧ Below w.heap.size w w' := by
  obtain ⟨s, hs⟩ : ∃ s : ByteArray, s = ⟨#[92, 39, 34]⟩ := ⟨_, rfl⟩
  have hsz : s.size = 3 := by rw [hs]; rfl
  have hlow : Hid (∀ i (h : i < s.size), (s[i]'h).toNat < 128) := hide (by rw [hs]; decide)
  rw [← hs]
  clear hs
  go_enter Tryd.func83, Tryd.ntmps83
  go_wp2_with fail
  go_loopg [5, 6] 3 (fun g _ _ wx => ∃ i : Nat, i + g = 3 ∧ wx = w.iter s i)
  case atStart => exact ⟨0, by omega, rfl⟩
  case round =>
    obtain ⟨i, hig, rfl⟩ := hrel
    cases gk with
    | zero =>
      obtain rfl : i = 3 := by omega
      have hnx := fun ty => run_next_end (P := Tryd.prog) w s 3 ty (by omega)
      go_wp2
      go_ret
      exact ⟨rfl, (Below.refl _ _).alloc (Nat.le_refl _) _⟩
    | succ g =>
      have hi : i < s.size := by omega
      have hlo := (unhide hlow) i hi
      have hnx := fun ty => run_next_ascii (P := Tryd.prog) w s i ty hi hlo
      obtain ⟨x, hx⟩ : ∃ x, x = ((s[i]'hi).toNat : Int) := ⟨_, rfl⟩
      have hx2 : (x == 65533) = false := by rw [beq_eq_false_iff_ne]; omega
      rw [← hx] at hnx
      clear hx hlo
      go_wp2
      go_roundg g
      case measure => omega
      case rel => exact ⟨i + 1, by omega, rfl⟩

set_option maxRecDepth 20000 in
set_option maxHeartbeats 4000000 in
theorem rune_bad (r : Int) (w : World) (h1 : 128 ≤ r) (h2 : r ≠ 65533) (h3 : Lib.validRune r = false) :
    Calls Tryd.prog 83 #[.string ⟨#[92, 39, 34]⟩, .int .i32 r] w fun e w' => e = .returned (.int .i64 (-1)) ∧ Below w.heap.size w w' := by
  have c1 : ¬ r < 128 := by omega
  have c2 : (r == 65533) = false := by rw [beq_eq_false_iff_ne]; exact h2
  have c3 : 0 ≤ r := by omega
  have hv := Tryd.utf8_ValidRune r w
  rw [h3] at hv
  have HV := hide hv
  clear h1 h2 h3 hv
  go_enter Tryd.func83, Tryd.ntmps83
  go_wp2_with fail
  refine (unhide HV).mono ?_
  rintro e w1 ⟨rfl, rfl⟩
  go_wp2
  go_ret
  exact ⟨rfl, Below.refl _ _⟩

set_option maxRecDepth 20000 in
set_option maxHeartbeats 4000000 in
theorem rune_good (r : Int) (w : World) (h1 : 128 ≤ r) (h2 : r ≠ 65533) (h3 : Lib.validRune r = true) :
    Calls Tryd.prog 83 #[.string ⟨#[92, 39, 34]⟩, .int .i32 r] w fun e w' => e = .returned (.int .i64 (-1)) ∧ Below w.heap.size w w' := by
  have c1 : ¬ r < 128 := by omega
  have c2 : (r == 65533) = false := by rw [beq_eq_false_iff_ne]; exact h2
  have c3 : 0 ≤ r := by omega
  have hv := Tryd.utf8_ValidRune r w
  rw [h3] at hv
  have HV := hide hv
  have hval : Utf8.valid r = true := by rw [validRune_eq]; exact h3
  obtain ⟨f1, f2, f3⟩ := encode_facts r hval h1
  obtain ⟨E, hE⟩ : ∃ E, E = Utf8.encode r := ⟨_, rfl⟩
  rw [← hE] at f1 f2 f3
  have hcv : ∀ W, (convert 21 9 (.int .i32 r)).run Tryd.prog W = .ok (.string E) W := by
    intro W; rw [hE]; exact run_convert_int_string W 21 9 .i32 r (by kernel_rfl) (by kernel_rfl)
  obtain ⟨L, hL⟩ : ∃ L : Nat, L = E.size - 1 := ⟨_, rfl⟩
  have hLl : L < E.size := by omega
  have hL1 : 1 ≤ L ∧ L ≤ 3 := by omega
  have hLs : IntKind.i64.wrap ((E.size : Int) - 1) = (L : Int) := by rw [IntKind.wrap_i64]; omega
  have hhi : 128 ≤ (E[L]'hLl).toNat := by have := f3 (by omega); simpa only [hL] using this
  obtain ⟨c, hc⟩ : ∃ c, c = E[L]'hLl := ⟨_, rfl⟩
  rw [← hc] at hhi
  obtain ⟨s, hs⟩ : ∃ s : ByteArray, s = ⟨#[92, 39, 34]⟩ := ⟨_, rfl⟩
  have hsz : s.size ≤ 3 ∧ 3 ≤ s.size := by rw [hs]; exact ⟨by decide, by decide⟩
  have hlow : ∀ i (h : i < s.size), (s[i]'h).toNat < 128 := by rw [hs]; decide
  have HIX : Hid (∀ a W, Calls Tryd.prog 48 #[.string (s.extract a s.size), .int .u8 (c.toNat : Int)] W fun e w' => e = .returned (.int .i64 (-1)) ∧ w' = W) := hide (fun a W => by
    have := Tryd.strings_IndexByte (s.extract a s.size) (c.toNat : Int) W
    rw [show ((c.toNat : Int)).toNat.toUInt8 = c by simp, idx_high _ c (fun b hb => three_low b (by rw [hs] at hb; exact mem_extract hb)) hhi] at this
    exact this)
  have HLW := hide hlow
  rw [← hs]
  have HHI := hide hhi
  have hLe : (L : Int) < (E.size : Int) := by omega
  have HC := hide hc
  clear h1 h2 h3 hv hval f1 f2 f3 hE hs hlow hhi hc hL
  go_enter Tryd.func83, Tryd.ntmps83
  go_wp2_with fail
  refine (unhide HV).mono ?_
  rintro e w1 ⟨rfl, rfl⟩
  go_wp2_with fail
  go_step3
  go_wp2_with fail
  go_loopw [9, 10] (fun a b wr => a = .int .i64 (L : Int) ∧ b = .int .i64 0 ∧ wr = w1) (fun _ _ _ => 0)
  case atStart => exact ⟨rfl, rfl, rfl⟩
  case round =>
    obtain ⟨rfl, rfl, rfl⟩ := hrel
    by_cases hlt : L < s.size
    · have hlt' : (L : Int) < (s.size : Int) := by omega
      have hL0 : (0 : Int) ≤ (L : Int) := by omega
      have hne : ((s[L]'hlt).toNat : Int) ≠ ((E[L]'hLl).toNat : Int) := by
        have a := (unhide HLW) L hlt
        have b := unhide HHI
        rw [unhide HC] at b
        omega
      obtain ⟨L1, hL1'⟩ : ∃ x, x = L + 1 := ⟨_, rfl⟩
      have hw1 : IntKind.i64.wrap ((L : Int) + 1) = (L1 : Int) := by rw [IntKind.wrap_i64]; omega
      have HIX2 : Hid (∀ W, Calls Tryd.prog 48 #[.string (s.extract L1 s.size), .int .u8 ((E[L]'hLl).toNat : Int)] W fun e w' => e = .returned (.int .i64 (-1)) ∧ w' = W) := hide (fun W => by rw [← unhide HC]; exact unhide HIX _ W)
      have hle2 : (L1 : Int) ≤ (s.size : Int) := by omega
      clear hL1'
      go_wp2_with fail
      go_step3
      go_wp2_with fail
      go_quiet (fail)
      obtain ⟨wq, hwq⟩ : ∃ x, x = wr.drewN nq := ⟨_, rfl⟩
      rw [← hwq]
      have HWQ : Hid (Below wr.heap.size wr wq) := hide (by rw [hwq]; exact below_drew _ _)
      clear hwq
      go_wp2_with fail
      go_quiet ((go_at_call 48; exact Calls.quiet_of_same (unhide HIX2 _)))
      go_wp2
      simp +zetaDelta only [Exit.inBlock, Exit.noGoto_ret, Exit.then]
      go_ret
      exact ⟨rfl, (unhide HWQ).trans ((below_drew _ _).mono (unhide HWQ).size)⟩
    · have hlt' : ¬ (L : Int) < (s.size : Int) := by omega
      go_wp2
      try rw [Exit.noGoto_ret]
      go_ret
      exact ⟨rfl, Below.refl _ _⟩

theorem rune_high (r : Int) (w : World) (h1 : 128 ≤ r) :
    Calls Tryd.prog 83 #[.string ⟨#[92, 39, 34]⟩, .int .i32 r] w fun e w' => e = .returned (.int .i64 (-1)) ∧ Below w.heap.size w w' := by
  by_cases h2 : r = 65533
  · subst h2; exact rune_err w
  · cases h3 : Lib.validRune r
    · exact rune_bad r w h1 h2 h3
    · exact rune_good r w h1 h2 h3

end Go.Proofs.YtlmpdfeidjnmnaaDoor

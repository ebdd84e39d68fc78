/-
  The contracts of the document's 'fits' and 'Special'.
-/
import Derived.Test.YtegaonlpbcpobaaSpecial
namespace Go.Proofs.Ytegaonlpbcpobaa
open Go.RowKit

set_option maxHeartbeats 2000000 in
theorem rfits_any (n : Nat) (t : Tok) (ra : Option Addr) (rc : Nat) (c : Int) (w : World) (hr : RowR n w (.slice ra t.rs.length rc) t.rs) (hn : n ≤ w.heap.size) :
    Calls Try.prog 25 #[.agg #[.int .i64 t.kind, .int .u8 t.c, .bool t.nt, .slice ra t.rs.length rc], .int .u8 c] w fun e w' => e = .returned (.bool (fitsB t c)) ∧ Below w.heap.size w w' := by
  obtain ⟨kd, tc, nt, rs⟩ := t
  dsimp only at hr ⊢
  by_cases h1 : kd = 1
  · subst h1
    go_enter Try.func25, Try.ntmps25
    go_wp2
    go_ret
    refine ⟨ret_bool ?_, (Below.refl _ w).alloc (Nat.le_refl _) _⟩
    show (tc == c) = decide (c = tc)
    rw [Bool.eq_iff_iff, beq_iff_eq, decide_eq_true_iff]
    exact eq_comm
  by_cases h2 : kd = 2
  · subst h2
    go_enter Try.func25, Try.ntmps25
    go_wp2
    go_ret
    exact ⟨ret_bool rfl, (Below.refl _ w).alloc (Nat.le_refl _) _⟩
  by_cases h4 : kd = 4
  · subst h4
    obtain ⟨a, cap, he, _, hm, hr⟩ := hr
    cases he
    have HR := hide hr
    clear hr
    go_enter Try.func25, Try.ntmps25
    go_wp2
    go_loop [5, 6] (fun x i => ∃ (k : Nat), k ≤ rs.length ∧ i = .int .i64 (k : Int) ∧ x = .bool (holdsB (rs.take k) c)) (fun _ i => rs.length - (intOf i).toNat)
    case atStart => exact ⟨0, Nat.zero_le _, rfl, rfl⟩
    case round =>
      obtain ⟨k, hk, rfl, rfl⟩ := hrel
      by_cases hlt : k < rs.length
      · have hst := holdsB_take rs c k hlt
        have HST := hide hst
        clear hst
        rcases unhide HR with hr | ⟨gb, go, rfl, hg, hcell⟩
        · simp [hr] at hlt
        have d0 := (((Below.refl _ w).alloc (Nat.le_refl _) (.cells #[.int .i64 4, .int .u8 tc, .bool nt, .slice (some ⟨gb, go, none⟩) rs.length rc] 42)).cell (p := ⟨gb, go + k * 2, none⟩) (by simp; omega)).trans (hcell k hlt).1
        have d1 := (((Below.refl _ w).alloc (Nat.le_refl _) (.cells #[.int .i64 4, .int .u8 tc, .bool nt, .slice (some ⟨gb, go, none⟩) rs.length rc] 42)).cell (p := ⟨gb, go + k * 2 + 1, none⟩) (by simp; omega)).trans (hcell k hlt).2
        have e0 := (hcell k hlt).1
        have e1 := (hcell k hlt).2
        clear hcell HR
        rcases Bool.eq_false_or_eq_true (holdsB (rs.take k) c) with hh | hh
        · rw [hh]
          go_wp2
          go_round
          case rel => exact ⟨k + 1, by omega, by go_num, by rw [unhide HST, hh]; rfl⟩
          case measure => simp [intOf]; omega
        · rw [hh]
          by_cases g1 : rs[k].1 ≤ c
          · by_cases g2 : c ≤ rs[k].2
            · go_wp2
              go_round
              case rel => exact ⟨k + 1, by omega, by go_num, by rw [unhide HST, hh]; simp [g1, g2]⟩
              case measure => simp [intOf]; omega
            · go_wp2
              go_round
              case rel => exact ⟨k + 1, by omega, by go_num, by rw [unhide HST, hh]; simp [g2]⟩
              case measure => simp [intOf]; omega
          · go_wp2
            go_round
            case rel => exact ⟨k + 1, by omega, by go_num, by rw [unhide HST, hh]; simp [g1]⟩
            case measure => simp [intOf]; omega
      · have hke : k = rs.length := by omega
        subst hke
        rw [List.take_length]
        obtain ⟨hb, hhb⟩ : ∃ x, x = holdsB rs c := ⟨_, rfl⟩
        rw [← hhb]
        have HHB := hide hhb
        clear hhb
        go_wp2
        go_ret
        refine ⟨ret_bool ?_, (Below.refl _ w).alloc (Nat.le_refl _) _⟩
        show _ = (holdsB rs c != nt)
        rw [← unhide HHB]
        cases hb <;> cases nt <;> rfl
  · have h1b : (kd == 1) = false := by rw [beq_eq_false_iff_ne]; exact h1
    have h2b : (kd == 2) = false := by rw [beq_eq_false_iff_ne]; exact h2
    have h4b : (kd == 4) = false := by rw [beq_eq_false_iff_ne]; exact h4
    go_enter Try.func25, Try.ntmps25
    go_wp2
    go_ret
    exact ⟨ret_bool (by unfold fitsB; rw [if_neg h1, if_neg h2, if_neg h4]), (Below.refl _ w).alloc (Nat.le_refl _) _⟩

set_option maxHeartbeats 1000000 in
theorem rspecial_any (n₀ : Nat) (v : Value) (ts : List Tok) (w : World) (hrow : TokRow n₀ w v ts) :
    Calls Try.prog 18 #[v] w fun e w' => e = .returned (.bool (specialB ts)) ∧ w' = w := by
  have HROW := hide hrow
  obtain ⟨a, cap, rfl, hmax⟩ := hrow.shape
  clear hrow
  go_enter Try.func18, Try.ntmps18
  go_wp2
  go_loop [3] (fun i => ∃ (k : Nat), k ≤ ts.length ∧ i = .int .i64 (k : Int) ∧ specialB (ts.take k) = false) (fun i => ts.length - (intOf i).toNat)
  case atStart => exact ⟨0, Nat.zero_le _, rfl, rfl⟩
  case round =>
    obtain ⟨k, hk, rfl, hx⟩ := hrel
    have HX := hide hx
    clear hx
    by_cases hlt : k < ts.length
    · obtain ⟨b, o, ra, rc, rfl, hb, ht, hm⟩ := (unhide HROW).tok hlt
      obtain ⟨⟨k0, k1, k2, k3⟩, _⟩ := ht
      by_cases h : ts[k].kind = 1
      · rw [h] at k0
        go_wp2
        go_round
        case rel => exact ⟨k + 1, by omega, by go_num, by rw [specialB_take _ _ hlt, unhide HX, h]; rfl⟩
        case measure => simp [intOf]; omega
      · have hb1 : (ts[k].kind == 1) = false := by rw [beq_eq_false_iff_ne]; exact h
        go_wp2
        go_ret
        exact ⟨ret_bool (specialB_hit hlt h).symm, rfl⟩
    · go_wp2
      go_ret
      have hz := unhide HX
      rw [List.take_of_length_le (by omega)] at hz
      exact ⟨ret_bool hz.symm, rfl⟩

end Go.Proofs.Ytegaonlpbcpobaa

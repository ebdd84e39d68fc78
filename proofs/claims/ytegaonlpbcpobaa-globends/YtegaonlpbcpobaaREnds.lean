/-
  The contracts of the document's 'Front' and 'Back'.
-/
import Derived.Test.YtegaonlpbcpobaaCuts
import Derived.Test.YtegaonlpbcpobaaMatches
namespace Go.Proofs.Ytegaonlpbcpobaa
open Go.RowKit

def pickI (l : Bool) (F : List Nat) : Int := if l then lastI F else firstI F
theorem pick_nil (l : Bool) : pickI l [] = -1 := by cases l <;> rfl
theorem pick_pos (l : Bool) {F : List Nat} (h : F ≠ []) : ∃ k : Nat, pickI l F = (k : Int) := by
  cases l
  · obtain ⟨k, _, e⟩ := firstI_mem h; exact ⟨k, e⟩
  · obtain ⟨k, _, e⟩ := lastI_mem h; exact ⟨k, e⟩
theorem pick_last (F : List Nat) (k : Nat) : pickI true (F ++ [k]) = (k : Int) := by simp [pickI, lastI]
theorem pick_one (l : Bool) (k : Nat) : pickI l ([] ++ [k]) = (k : Int) := by cases l <;> rfl
theorem pick_first {F : List Nat} (h : F ≠ []) (k : Nat) : pickI false (F ++ [k]) = pickI false F := by
  cases F with
  | nil => exact absurd rfl h
  | cons x F => rfl
def fitF (f : Nat → Bool) (k : Nat) : List Nat := (List.range k).filter f
theorem fitF_hit {f : Nat → Bool} {k : Nat} (h : f k = true) : fitF f (k + 1) = fitF f k ++ [k] := by
  unfold fitF; rw [List.range_succ, List.filter_append]; simp [h]
theorem fitF_miss {f : Nat → Bool} {k : Nat} (h : f k = false) : fitF f (k + 1) = fitF f k := by
  unfold fitF; rw [List.range_succ, List.filter_append]; simp [h]
theorem front_pick (s : ByteArray) (ts : List Tok) (l : Bool) : frontI s ts l = pickI l (fitF (tabF s ts) (s.size + 1)) := rfl
theorem back_pick (s : ByteArray) (ts : List Tok) (l : Bool) : backI s ts l = pickI l (fitF (fun k => matchB (sufS s (s.size - k)) ts) (s.size + 1)) := by
  show pickI l (fitF (tabF (revS s) ts.reverse) ((revS s).size + 1)) = _
  rw [revS_size]
  congr 1
  unfold fitF
  apply List.filter_congr
  intro k hk
  rw [List.mem_range] at hk
  rw [tab_pre _ _ _ (by rw [revS_size]; omega), match_pre_rev s ts k (by omega)]

set_option maxHeartbeats 4000000 in
theorem rfront_any (v : Value) (s : ByteArray) (ts : List Tok) (longest : Bool) (w : World) (hs : s.size ≤ 10000) (ht : TR w v ts) :
    Calls Try.prog 20 #[v, .string s, .bool longest] w fun e w' => e = .returned (.int .i64 (frontI s ts longest)) ∧ Below w.heap.size w w' := by
  have HT := hide ht
  obtain ⟨a, cap, rfl, _⟩ := TokRow.shape ht
  clear ht
  go_enter Try.func20, Try.ntmps20
  go_wp2
  go_loopw [7, 8] (fun x n wr => ∃ (k : Nat), k ≤ s.size + 1 ∧ n = .int .i64 (k : Int) ∧ x = .int .i64 (pickI longest (fitF (tabF s ts) k)) ∧ Below w.heap.size w wr) (fun _ n _ => s.size + 1 - (intOf n).toNat)
  case atStart => exact ⟨0, Nat.zero_le _, rfl, by rw [show fitF (tabF s ts) 0 = [] from rfl, pick_nil], Below.refl _ _⟩
  case round =>
    obtain ⟨k, hk, rfl, rfl, hbel⟩ := hrel
    have HB := hide hbel
    have HTr := hide ((unhide HT).next hbel)
    clear hbel
    by_cases hlt : k ≤ s.size
    · have HTP := hide (tab_pre s ts k hlt)
      have hl1 : (k : Int) ≤ (s.size : Int) := by omega
      rcases Bool.eq_false_or_eq_true (matchB (preS s k) ts) with hm | hm
      · have HM := hide hm
        have hhit := fitF_hit (f := tabF s ts) (k := k) (by rw [unhide HTP, hm])
        clear hm
        by_cases hF : fitF (tabF s ts) k = []
        · have HN : Hid (pickI longest (fitF (tabF s ts) (k + 1)) = (k : Int)) := hide (by rw [hhit, hF, pick_one])
          rw [hF, pick_nil]
          clear hhit hF
          go_wp2_with fail
          refine (rm (preS s k) ts true _ _ (by unfold preS; rw [extract_size s 0 k hlt]; omega) (unhide HTr) (unhide HM)).mono ?_
          rintro e x1 ⟨rfl, b1⟩
          have HB1 := hide ((unhide HB).trans (b1.mono (unhide HB).size))
          clear b1
          go_wp2
          go_roundw
          case rel => exact ⟨k + 1, by omega, by go_num, by rw [unhide HN], unhide HB1⟩
          case measure => simp [intOf]; omega
        · obtain ⟨p, hp⟩ := pick_pos longest hF
          rw [hp]
          have hpn : decide ((p : Int) < 0) = false := by rw [decide_eq_false_iff_not]; omega
          cases longest
          · have HN : Hid (pickI false (fitF (tabF s ts) (k + 1)) = (p : Int)) := hide (by rw [hhit, pick_first hF, hp])
            clear hhit hF hp
            go_wp2_with fail
            refine (rm (preS s k) ts true _ _ (by unfold preS; rw [extract_size s 0 k hlt]; omega) (unhide HTr) (unhide HM)).mono ?_
            rintro e x1 ⟨rfl, b1⟩
            have HB1 := hide ((unhide HB).trans (b1.mono (unhide HB).size))
            clear b1
            go_wp2
            go_roundw
            case rel => exact ⟨k + 1, by omega, by go_num, by rw [unhide HN], unhide HB1⟩
            case measure => simp [intOf]; omega
          · have HN : Hid (pickI true (fitF (tabF s ts) (k + 1)) = (k : Int)) := hide (by rw [hhit, pick_last])
            clear hhit hF hp
            go_wp2_with fail
            refine (rm (preS s k) ts true _ _ (by unfold preS; rw [extract_size s 0 k hlt]; omega) (unhide HTr) (unhide HM)).mono ?_
            rintro e x1 ⟨rfl, b1⟩
            have HB1 := hide ((unhide HB).trans (b1.mono (unhide HB).size))
            clear b1
            go_wp2
            go_roundw
            case rel => exact ⟨k + 1, by omega, by go_num, by rw [unhide HN], unhide HB1⟩
            case measure => simp [intOf]; omega
      · have HM := hide hm
        have HN : Hid (fitF (tabF s ts) (k + 1) = fitF (tabF s ts) k) := hide (fitF_miss (by rw [unhide HTP, hm]))
        clear hm
        obtain ⟨y, hy⟩ : ∃ y, y = pickI longest (fitF (tabF s ts) k) := ⟨_, rfl⟩
        rw [← hy]
        have HY := hide hy
        clear hy
        go_wp2_with fail
        refine (rm (preS s k) ts false _ _ (by unfold preS; rw [extract_size s 0 k hlt]; omega) (unhide HTr) (unhide HM)).mono ?_
        rintro e x1 ⟨rfl, b1⟩
        have HB1 := hide ((unhide HB).trans (b1.mono (unhide HB).size))
        clear b1
        go_wp2
        go_roundw
        case rel => exact ⟨k + 1, by omega, by go_num, by rw [unhide HN, unhide HY], unhide HB1⟩
        case measure => simp [intOf]; omega
    · have hke : k = s.size + 1 := by omega
      subst hke
      rw [← front_pick]
      obtain ⟨y, hy⟩ : ∃ y, y = frontI s ts longest := ⟨_, rfl⟩
      rw [← hy]
      go_wp2
      go_ret
      exact ⟨ret_int hy, unhide HB⟩

set_option maxHeartbeats 4000000 in
theorem rback_any (v : Value) (s : ByteArray) (ts : List Tok) (longest : Bool) (w : World) (hs : s.size ≤ 10000) (ht : TR w v ts) :
    Calls Try.prog 22 #[v, .string s, .bool longest] w fun e w' => e = .returned (.int .i64 (backI s ts longest)) ∧ Below w.heap.size w w' := by
  have HT := hide ht
  obtain ⟨a, cap, rfl, _⟩ := TokRow.shape ht
  clear ht
  go_enter Try.func22, Try.ntmps22
  go_wp2
  go_loopw [7, 8] (fun x n wr => ∃ (k : Nat), k ≤ s.size + 1 ∧ n = .int .i64 (k : Int) ∧ x = .int .i64 (pickI longest (fitF (fun k => matchB (sufS s (s.size - k)) ts) k)) ∧ Below w.heap.size w wr) (fun _ n _ => s.size + 1 - (intOf n).toNat)
  case atStart => exact ⟨0, Nat.zero_le _, rfl, by rw [show fitF (fun k => matchB (sufS s (s.size - k)) ts) 0 = [] from rfl, pick_nil], Below.refl _ _⟩
  case round =>
    obtain ⟨k, hk, rfl, rfl, hbel⟩ := hrel
    have HB := hide hbel
    have HTr := hide ((unhide HT).next hbel)
    clear hbel
    by_cases hlt : k ≤ s.size
    · obtain ⟨r, hr⟩ : ∃ r : Nat, (s.size : Int) - (k : Int) = (r : Int) := ⟨s.size - k, by omega⟩
      have her : s.size - k = r := by omega
      have HER := hide her
      have hrs : r ≤ s.size := by omega
      clear her
      have hl1 : (k : Int) ≤ (s.size : Int) := by omega
      rcases Bool.eq_false_or_eq_true (matchB (sufS s r) ts) with hm | hm
      · have HM := hide hm
        have hhit := fitF_hit (f := fun k => matchB (sufS s (s.size - k)) ts) (k := k) (by simp only [unhide HER]; exact hm)
        clear hm
        by_cases hF : fitF (fun k => matchB (sufS s (s.size - k)) ts) k = []
        · have HN : Hid (pickI longest (fitF (fun k => matchB (sufS s (s.size - k)) ts) (k + 1)) = (k : Int)) := hide (by rw [hhit, hF, pick_one])
          rw [hF, pick_nil]
          clear hhit hF
          go_wp2_with fail
          refine (rm (sufS s r) ts true _ _ (by unfold sufS; rw [extract_size s r s.size (Nat.le_refl _)]; omega) (unhide HTr) (unhide HM)).mono ?_
          rintro e x1 ⟨rfl, b1⟩
          have HB1 := hide ((unhide HB).trans (b1.mono (unhide HB).size))
          clear b1
          go_wp2
          go_roundw
          case rel => exact ⟨k + 1, by omega, by go_num, by rw [unhide HN], unhide HB1⟩
          case measure => simp [intOf]; omega
        · obtain ⟨p, hp⟩ := pick_pos longest hF
          rw [hp]
          have hpn : decide ((p : Int) < 0) = false := by rw [decide_eq_false_iff_not]; omega
          cases longest
          · have HN : Hid (pickI false (fitF (fun k => matchB (sufS s (s.size - k)) ts) (k + 1)) = (p : Int)) := hide (by rw [hhit, pick_first hF, hp])
            clear hhit hF hp
            go_wp2_with fail
            refine (rm (sufS s r) ts true _ _ (by unfold sufS; rw [extract_size s r s.size (Nat.le_refl _)]; omega) (unhide HTr) (unhide HM)).mono ?_
            rintro e x1 ⟨rfl, b1⟩
            have HB1 := hide ((unhide HB).trans (b1.mono (unhide HB).size))
            clear b1
            go_wp2
            go_roundw
            case rel => exact ⟨k + 1, by omega, by go_num, by rw [unhide HN], unhide HB1⟩
            case measure => simp [intOf]; omega
          · have HN : Hid (pickI true (fitF (fun k => matchB (sufS s (s.size - k)) ts) (k + 1)) = (k : Int)) := hide (by rw [hhit, pick_last])
            clear hhit hF hp
            go_wp2_with fail
            refine (rm (sufS s r) ts true _ _ (by unfold sufS; rw [extract_size s r s.size (Nat.le_refl _)]; omega) (unhide HTr) (unhide HM)).mono ?_
            rintro e x1 ⟨rfl, b1⟩
            have HB1 := hide ((unhide HB).trans (b1.mono (unhide HB).size))
            clear b1
            go_wp2
            go_roundw
            case rel => exact ⟨k + 1, by omega, by go_num, by rw [unhide HN], unhide HB1⟩
            case measure => simp [intOf]; omega
      · have HM := hide hm
        have HN : Hid (fitF (fun k => matchB (sufS s (s.size - k)) ts) (k + 1) = fitF (fun k => matchB (sufS s (s.size - k)) ts) k) := hide (fitF_miss (by simp only [unhide HER]; exact hm))
        clear hm
        obtain ⟨y, hy⟩ : ∃ y, y = pickI longest (fitF (fun k => matchB (sufS s (s.size - k)) ts) k) := ⟨_, rfl⟩
        rw [← hy]
        have HY := hide hy
        clear hy
        go_wp2_with fail
        refine (rm (sufS s r) ts false _ _ (by unfold sufS; rw [extract_size s r s.size (Nat.le_refl _)]; omega) (unhide HTr) (unhide HM)).mono ?_
        rintro e x1 ⟨rfl, b1⟩
        have HB1 := hide ((unhide HB).trans (b1.mono (unhide HB).size))
        clear b1
        go_wp2
        go_roundw
        case rel => exact ⟨k + 1, by omega, by go_num, by rw [unhide HN, unhide HY], unhide HB1⟩
        case measure => simp [intOf]; omega
    · have hke : k = s.size + 1 := by omega
      subst hke
      rw [← back_pick]
      obtain ⟨y, hy⟩ : ∃ y, y = backI s ts longest := ⟨_, rfl⟩
      rw [← hy]
      go_wp2
      go_ret
      exact ⟨ret_int hy, unhide HB⟩

end Go.Proofs.Ytegaonlpbcpobaa

/-
  The document's small functions of layer 4: digits, quotes, line, op, special.
-/
import Derived.Test.YtlmpdfeidjnmnaaDoorLexL
namespace Go.Proofs.YtlmpdfeidjnmnaaDoor
open Go.RowKit

set_option maxRecDepth 20000 in
set_option maxHeartbeats 4000000 in
theorem rdigits_any (s : ByteArray) (w : World) (hs : s.size ≤ 100000) (h0 : 0 < s.size) : Calls Tryd.prog 28 #[.string s] w fun e w' => e = .returned (.bool (digsB s.data.toList)) ∧ w' = w := by
  have hne := not_empty h0
  go_enter Tryd.func28, Tryd.ntmps28
  go_wp2_with fail
  go_loop [3] (fun x => ∃ k : Nat, x = .int .i64 (k : Int) ∧ k ≤ s.size ∧ Hid (digsB (s.data.toList.drop k) = digsB s.data.toList)) (fun x => s.size - (intOf x).toNat)
  case atStart => exact ⟨0, rfl, Nat.zero_le _, hide rfl⟩
  case round =>
    obtain ⟨k, rfl, hks, HK⟩ := hrel
    by_cases hk : k < s.size
    · have hk' : (k : Int) < (s.size : Int) := by omega
      obtain ⟨k1, hk1⟩ : ∃ x, x = k + 1 := ⟨_, rfl⟩
      have hwk : IntKind.i64.wrap ((k : Int) + 1) = (k1 : Int) := by rw [IntKind.wrap_i64]; omega
      have hd : digsB (s.data.toList.drop k) = (digB (s[k].toNat : Int) && digsB (s.data.toList.drop k1)) := by rw [drop_at hk, hk1]; rfl
      have hk1s : k1 ≤ s.size ∧ k < k1 := by omega
      rcases Bool.eq_false_or_eq_true (digB (s[k].toNat : Int)) with hb | hb
      · have HN : Hid (digsB (s.data.toList.drop k1) = digsB s.data.toList) := hide (by rw [← unhide HK, hd, hb]; rfl)
        clear hd hk1
        go_wp2_with fail
        refine (rdigit_any _ _).mono ?_
        rintro en w4 ⟨rfl, hw4⟩
        have hw5 := hw4.symm
        subst hw5
        clear hw4
        rw [hb]
        clear hb
        go_wp2
        go_round
        case rel => exact ⟨k1, rfl, hk1s.1, HN⟩
        case measure => simp [intOf]; omega
      · have HN : Hid (digsB s.data.toList = false) := hide (by rw [← unhide HK, hd, hb]; rfl)
        clear hd hk1
        go_wp2_with fail
        refine (rdigit_any _ _).mono ?_
        rintro en w4 ⟨rfl, hw4⟩
        have hw5 := hw4.symm
        subst hw5
        clear hw4
        rw [hb]
        clear hb
        go_wp2
        go_ret
        rw [unhide HN]
        exact ⟨rfl, rfl⟩
    · have hk' : ¬ (k : Int) < (s.size : Int) := by omega
      have HN : Hid (digsB s.data.toList = true) := hide (by rw [← unhide HK, drop_nil (by omega)]; rfl)
      go_wp2
      go_ret
      rw [unhide HN]
      exact ⟨rfl, rfl⟩

/-- A backslash, a quote or double quotes. -/
def quoB (c : UInt8) : Bool := c == 92 || c == 39 || c == 34
def anyQ (l : List UInt8) : Bool := l.any quoB
set_option maxRecDepth 20000 in
set_option maxHeartbeats 4000000 in
theorem rquotes_any (s : ByteArray) (w : World) (hs : s.size ≤ 100000) : Calls Tryd.prog 29 #[.string s] w fun e w' => e = .returned (.bool (anyQ s.data.toList)) ∧ w' = w := by
  go_enter Tryd.func29, Tryd.ntmps29
  go_wp2_with fail
  go_loopw [3] (fun x wr => ∃ k : Nat, x = .int .i64 (k : Int) ∧ k ≤ s.size ∧ Hid (anyQ (s.data.toList.drop k) = anyQ s.data.toList) ∧ wr = w) (fun x _ => s.size - (intOf x).toNat)
  case atStart => exact ⟨0, rfl, Nat.zero_le _, hide rfl, rfl⟩
  case round =>
    obtain ⟨k, rfl, hks, HK, rfl⟩ := hrel
    by_cases hk : k < s.size
    · have hk' : (k : Int) < (s.size : Int) := by omega
      obtain ⟨k1, hk1⟩ : ∃ x, x = k + 1 := ⟨_, rfl⟩
      have hwk : IntKind.i64.wrap ((k : Int) + 1) = (k1 : Int) := by rw [IntKind.wrap_i64]; omega
      have hd : anyQ (s.data.toList.drop k) = (quoB s[k] || anyQ (s.data.toList.drop k1)) := by rw [drop_at hk, hk1]; rfl
      have hk1s : k1 ≤ s.size ∧ k < k1 := by omega
      by_cases h1 : s[k] = 92
      · have HN : Hid (anyQ s.data.toList = true) := hide (by rw [← unhide HK, hd, h1]; rfl)
        have hv : (s[k].toNat : Int) = 92 := by rw [h1]; rfl
        clear hd hk1
        go_wp2
        go_ret
        rw [unhide HN]
        exact ⟨rfl, rfl⟩
      have hv1 : ¬ (s[k].toNat : Int) = 92 := fun e => h1 (UInt8.toNat_inj.1 (show s[k].toNat = 92 by omega))
      by_cases h2 : s[k] = 39
      · have HN : Hid (anyQ s.data.toList = true) := hide (by rw [← unhide HK, hd, h2]; rfl)
        have hv : (s[k].toNat : Int) = 39 := by rw [h2]; rfl
        clear hd hk1
        go_wp2
        go_ret
        rw [unhide HN]
        exact ⟨rfl, rfl⟩
      have hv2 : ¬ (s[k].toNat : Int) = 39 := fun e => h2 (UInt8.toNat_inj.1 (show s[k].toNat = 39 by omega))
      by_cases h3 : s[k] = 34
      · have HN : Hid (anyQ s.data.toList = true) := hide (by rw [← unhide HK, hd, h3]; rfl)
        have hv : (s[k].toNat : Int) = 34 := by rw [h3]; rfl
        clear hd hk1
        go_wp2
        go_ret
        rw [unhide HN]
        exact ⟨rfl, rfl⟩
      have hv3 : ¬ (s[k].toNat : Int) = 34 := fun e => h3 (UInt8.toNat_inj.1 (show s[k].toNat = 34 by omega))
      have HN : Hid (anyQ (s.data.toList.drop k1) = anyQ s.data.toList) := hide (by
        rw [← unhide HK, hd]
        have : quoB s[k] = false := by
          unfold quoB
          rw [beq_false_of_ne h1, beq_false_of_ne h2, beq_false_of_ne h3]
          rfl
        rw [this]; rfl)
      have b1 : ((s[k].toNat : Int) == 92) = false := beq_eq_false_iff_ne.2 hv1
      have b2 : ((s[k].toNat : Int) == 39) = false := beq_eq_false_iff_ne.2 hv2
      have b3 : ((s[k].toNat : Int) == 34) = false := beq_eq_false_iff_ne.2 hv3
      clear hd hk1 h1 h2 h3 hv1 hv2 hv3
      go_wp2
      all_goals
        go_roundw
        case rel => exact ⟨k1, rfl, hk1s.1, HN, by trivial⟩
        case measure => simp [intOf]; omega
    · have hk' : ¬ (k : Int) < (s.size : Int) := by omega
      have HN : Hid (anyQ s.data.toList = false) := hide (by rw [← unhide HK, drop_nil (by omega)]; rfl)
      go_wp2
      go_ret
      rw [unhide HN]
      exact ⟨rfl, rfl⟩

set_option maxRecDepth 20000 in
set_option maxHeartbeats 4000000 in
theorem rline_any (s : ByteArray) (p : Nat) (w : World) (hs : s.size ≤ 100000) (hp : p ≤ s.size) : Calls Tryd.prog 25 #[.string s, .int .i64 (p : Int)] w fun e w' => ∃ k q : Nat, e = .returned (.tuple #[.int .i64 (k : Int), .int .i64 (q : Int)]) ∧ w' = w ∧ p ≤ k ∧ k ≤ s.size ∧ q ≤ s.size ∧ s.data.toList.drop k = (s.data.toList.drop p).dropWhile (fun x => x != 10) ∧ s.data.toList.drop q = ((s.data.toList.drop p).dropWhile (fun x => x != 10)).drop 1 ∧ (s.data.toList.drop p).takeWhile (fun x => x != 10) = (s.data.toList.drop p).take (k - p) ∧ (k < s.size → q = k + 1) ∧ k ≤ q := by
  obtain ⟨D, hD⟩ : ∃ D, D = (s.data.toList.drop p).dropWhile (fun x => x != 10) := ⟨_, rfl⟩
  have HD := hide hD
  have hpp : p ≤ p := Nat.le_refl _
  rw [← hD]
  obtain ⟨D1, hD1⟩ : ∃ x, x = D.drop 1 := ⟨_, rfl⟩
  rw [← hD1]
  have HD1 := hide hD1
  clear hD1
  go_enter Tryd.func25, Tryd.ntmps25
  go_wp2_with fail
  go_loop [6] (fun x => ∃ k : Nat, x = .int .i64 (k : Int) ∧ p ≤ k ∧ k ≤ s.size ∧ Hid ((s.data.toList.drop k).dropWhile (fun x => x != 10) = D)) (fun x => s.size - (intOf x).toNat)
  case atStart => exact ⟨p, rfl, Nat.le_refl _, hp, hide hD.symm⟩
  case round =>
    obtain ⟨k, rfl, hpk, hks, HK⟩ := hrel
    clear hD
    have hfin : s.data.toList.drop k = D → (s.data.toList.drop p).takeWhile (fun x => x != 10) = (s.data.toList.drop p).take (k - p) := by
      intro h
      rw [take_drop_while, ← unhide HD, ← h, List.length_drop, List.length_drop, data_len]
      congr 1
      omega
    have HFI := hide hfin
    clear hfin
    by_cases hk : k < s.size
    · have hk' : (k : Int) < (s.size : Int) := by omega
      obtain ⟨k1, hk1⟩ : ∃ x, x = k + 1 := ⟨_, rfl⟩
      have hwk : IntKind.i64.wrap ((k : Int) + 1) = (k1 : Int) := by rw [IntKind.wrap_i64]; omega
      have hk1s : k1 ≤ s.size ∧ k < k1 := by omega
      by_cases h10 : s[k] = 10
      · have hv : (s[k].toNat : Int) = 10 := by rw [h10]; rfl
        have HE : Hid (s.data.toList.drop k = D) := hide (by
          rw [← unhide HK, drop_at hk, List.dropWhile_cons, if_neg (by rw [h10]; decide)])
        have HE1 : Hid (s.data.toList.drop k1 = D1) := hide (by rw [unhide HD1, hk1, ← unhide HE, List.drop_drop])
        have hmin : min (k1 : Int) (s.size : Int) = (k1 : Int) := by omega
        have HK1 := hide hk1
        clear h10 hk1
        go_wp2
        go_ret2
        exact ⟨k, k1, rfl, rfl, hpk, hks, hk1s.1, unhide HE, unhide HE1, unhide HFI (unhide HE), fun _ => unhide HK1, by omega⟩
      · have hv : ¬ (s[k].toNat : Int) = 10 := fun e => h10 (UInt8.toNat_inj.1 (show s[k].toNat = 10 by omega))
        have HN : Hid ((s.data.toList.drop k1).dropWhile (fun x => x != 10) = D) := hide (by
          rw [← unhide HK, drop_at hk, List.dropWhile_cons, if_pos (by simpa using h10), hk1])
        clear h10 hk1
        go_wp2
        go_round
        case rel => exact ⟨k1, rfl, by omega, hk1s.1, HN⟩
        case measure => simp [intOf]; omega
    · have hk' : ¬ (k : Int) < (s.size : Int) := by omega
      have hkn : k = s.size := by omega
      have HE : Hid (s.data.toList.drop k = D) := hide (by rw [← unhide HK, drop_nil (by omega)]; rfl)
      have HE1 : Hid (s.data.toList.drop k = D1) := hide (by rw [unhide HD1, ← unhide HE, List.drop_drop, drop_nil (by omega), drop_nil (by omega)])
      have hwk : IntKind.i64.wrap ((k : Int) + 1) = ((k + 1 : Nat) : Int) := by rw [IntKind.wrap_i64]; omega
      have hmin : min ((k : Int) + 1) (s.size : Int) = (k : Int) := by omega
      clear hkn
      go_wp2
      go_ret2
      exact ⟨k, k, rfl, rfl, hpk, hks, hks, unhide HE, unhide HE1, unhide HFI (unhide HE), fun h => absurd h hk, Nat.le_refl _⟩

/-- The document's operators, in its order. -/
def opsR : List (List UInt8) := [[60, 60, 45], [38, 38], [124, 124], [59, 59], [60, 60], [62, 62], [60, 38], [62, 38], [60, 62], [124], [38], [59], [60], [62], [40], [41]]
def opRF (l : List UInt8) (k : Nat) : List UInt8 := ((opsR.drop k).find? (fun o => Lib.hasPrefix l o)).getD []
theorem opRF_yes {l o : List UInt8} {k : Nat} (hk : opsR[k]? = some o) (h : Lib.hasPrefix l o = true) : opRF l k = o := by
  unfold opRF
  have hl := (List.getElem?_eq_some_iff.1 hk).1
  rw [List.drop_eq_getElem_cons hl, (List.getElem?_eq_some_iff.1 hk).2, List.find?_cons, h]
  rfl
theorem opRF_no {l o : List UInt8} {k : Nat} (hk : opsR[k]? = some o) (h : Lib.hasPrefix l o = false) : opRF l k = opRF l (k + 1) := by
  unfold opRF
  have hl := (List.getElem?_eq_some_iff.1 hk).1
  rw [List.drop_eq_getElem_cons hl, (List.getElem?_eq_some_iff.1 hk).2, List.find?_cons, h]
theorem hasP_three (c x y z : UInt8) (r : List UInt8) : Lib.hasPrefix (c :: r) [x, y, z] = ((c == x) && (r.head? == some y) && ((r.drop 1).head? == some z)) := by
  have e : (x == c) = (c == x) := by
    by_cases h : c = x
    · subst h; rfl
    · rw [show (c == x) = false from beq_false_of_ne h, show (x == c) = false from beq_false_of_ne (fun e => h e.symm)]
  cases r with
  | nil =>
    show (x == c && _) = _
    rw [e]
    simp
  | cons d r =>
    show (x == c && Lib.hasPrefix (d :: r) [y, z]) = _
    rw [e, hasP_two]
    simp [Bool.and_assoc]
/-- Both orders come to the same operator. -/
theorem opRF_eq (l : List UInt8) : opRF l 0 = opL l := by
  cases l with
  | nil => rfl
  | cons c r =>
    unfold opRF opL opFrom opsR opsT
    simp only [List.drop_zero, List.find?_cons, hasP_one, hasP_two, hasP_three, List.find?_nil]
    by_cases h1 : c = 60
    · subst h1
      simp only [show ((60 : UInt8) == 60) = true from rfl, show ((60 : UInt8) == 62) = false from rfl, show ((60 : UInt8) == 38) = false from rfl, show ((60 : UInt8) == 124) = false from rfl, show ((60 : UInt8) == 59) = false from rfl, Bool.true_and, Bool.false_and]
    by_cases h2 : c = 62
    · subst h2
      simp only [show ((62 : UInt8) == 60) = false from rfl, show ((62 : UInt8) == 62) = true from rfl, show ((62 : UInt8) == 38) = false from rfl, show ((62 : UInt8) == 124) = false from rfl, show ((62 : UInt8) == 59) = false from rfl, Bool.true_and, Bool.false_and]
    by_cases h3 : c = 38
    · subst h3
      simp only [show ((38 : UInt8) == 60) = false from rfl, show ((38 : UInt8) == 62) = false from rfl, show ((38 : UInt8) == 38) = true from rfl, show ((38 : UInt8) == 124) = false from rfl, show ((38 : UInt8) == 59) = false from rfl, Bool.true_and, Bool.false_and]
    by_cases h4 : c = 124
    · subst h4
      simp only [show ((124 : UInt8) == 60) = false from rfl, show ((124 : UInt8) == 62) = false from rfl, show ((124 : UInt8) == 38) = false from rfl, show ((124 : UInt8) == 124) = true from rfl, show ((124 : UInt8) == 59) = false from rfl, Bool.true_and, Bool.false_and]
    by_cases h5 : c = 59
    · subst h5
      simp only [show ((59 : UInt8) == 60) = false from rfl, show ((59 : UInt8) == 62) = false from rfl, show ((59 : UInt8) == 38) = false from rfl, show ((59 : UInt8) == 124) = false from rfl, show ((59 : UInt8) == 59) = true from rfl, Bool.true_and, Bool.false_and]
    by_cases h6 : c = 40
    · subst h6
      simp only [show ((40 : UInt8) == 60) = false from rfl, show ((40 : UInt8) == 62) = false from rfl, show ((40 : UInt8) == 38) = false from rfl, show ((40 : UInt8) == 124) = false from rfl, show ((40 : UInt8) == 59) = false from rfl, show ((40 : UInt8) == 40) = true from rfl, Bool.false_and]
    by_cases h7 : c = 41
    · subst h7
      simp only [show ((41 : UInt8) == 60) = false from rfl, show ((41 : UInt8) == 62) = false from rfl, show ((41 : UInt8) == 38) = false from rfl, show ((41 : UInt8) == 124) = false from rfl, show ((41 : UInt8) == 59) = false from rfl, show ((41 : UInt8) == 40) = false from rfl, show ((41 : UInt8) == 41) = true from rfl, Bool.false_and]
    have e : ∀ x : UInt8, c ≠ x → (c == x) = false := fun x h => beq_false_of_ne h
    simp only [e 60 h1, e 62 h2, e 38 h3, e 124 h4, e 59 h5, e 40 h6, e 41 h7, Bool.false_and]

end Go.Proofs.YtlmpdfeidjnmnaaDoor

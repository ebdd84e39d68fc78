/-
  A text in place: the document's 'body'.
-/
import Derived.Test.YtlmpdfeidjnmnaaDoorRSmall
import Derived.Test.YtlmpdfeidjnmnaaDoorTakeUp2
namespace Go.Proofs.YtlmpdfeidjnmnaaDoor
open Go.RowKit

/-- The bytes 9 at a text's front are dropped one by one. -/
theorem trim_step (l : List UInt8) : Lib.trimLeftB (9 :: l) 9 = Lib.trimLeftB l 9 := by
  unfold Lib.trimLeftB
  rw [List.dropWhile_cons]
  simp
theorem trim_stop {c : UInt8} {l : List UInt8} (h : c ≠ 9) : Lib.trimLeftB (c :: l) 9 = c :: l := by
  unfold Lib.trimLeftB
  rw [List.dropWhile_cons]
  simp [h]
theorem trim_nil : Lib.trimLeftB [] 9 = [] := rfl
theorem ext_front {t : ByteArray} (h : 0 < t.size) : t.data.toList = t[0] :: (t.extract 1 t.size).data.toList := front_list h

/-- How 'body' ends. -/
def BdEnd (w : World) (s : ByteArray) (T : Option (List UInt8 × List UInt8)) (e : Ending) (w' : World) : Prop :=
  w' = w ∧ ∃ q : Nat, q ≤ s.size ∧ match T with
    | some (body, rest) => e = .returned (.tuple #[.string (BA body), .int .i64 (q : Int), .bool true]) ∧ s.data.toList.drop q = rest
    | none => e = .returned (.tuple #[.string ⟨#[]⟩, .int .i64 (q : Int), .bool false]) ∧ q = s.size

set_option maxRecDepth 20000 in
set_option maxHeartbeats 8000000 in
theorem body_any (s : ByteArray) (p : Nat) (en : List UInt8) (tabs : Bool) (w : World) (hs : s.size ≤ 100000) (hp : p ≤ s.size) :
    Calls Tryd.prog 26 #[.string s, .int .i64 (p : Int), .string (BA en), .bool tabs] w fun e w' => BdEnd w s (takeL (s.size - p + 1) tabs en (s.data.toList.drop p) []) e w' := by
  obtain ⟨T, hT⟩ : ∃ T, T = takeL (s.size - p + 1) tabs en (s.data.toList.drop p) [] := ⟨_, rfl⟩
  have HT := hide hT.symm
  rw [← hT]
  clear hT
  go_enter Tryd.func26, Tryd.ntmps26
  go_wp2_with fail
  go_loopw [1, 11] (fun i o wr => ∃ (q F : Nat) (acc : List UInt8), i = .int .i64 (q : Int) ∧ o = .string (BA acc) ∧ q ≤ s.size ∧ wr = w ∧ Hid (s.size - q + 1 ≤ F ∧ acc.length ≤ 2 * q ∧ takeL F tabs en (s.data.toList.drop q) acc = T)) (fun i _ _ => s.size - (intOf i).toNat)
  case atStart => exact ⟨p, s.size - p + 1, [], rfl, rfl, hp, rfl, hide ⟨Nat.le_refl _, by simp, unhide HT⟩⟩
  case round =>
    obtain ⟨q, F, acc, rfl, rfl, hq, rfl, HI⟩ := hrel
    clear HT
    by_cases hlt : q < s.size
    · have hlt' : (q : Int) < (s.size : Int) := by omega
      have HLN := hide (rline_any s q wr hs hq)
      obtain ⟨hF, hacc, hTK⟩ := unhide HI
      obtain ⟨F, rfl⟩ : ∃ g, F = g + 1 := ⟨F - 1, by omega⟩
      have HTK := hide hTK
      clear HI hTK
      go_wp2_with fail
      refine (unhide HLN).mono ?_
      rintro en1 w1 ⟨k, q2, rfl, hw1, hqk, hks, hq2s, hdk, hdq, htw, hqq, hkq⟩
      rw [show w1 = wr from hw1]
      clear hw1 HLN
      have hne : s.data.toList.drop q ≠ [] := by rw [drop_at hlt]; simp
      obtain ⟨A, hA⟩ : ∃ A, A = (s.data.toList.drop q).takeWhile (fun x => x != 10) := ⟨_, rfl⟩
      have hex : s.extract q k = BA A := by
        rw [hA, htw]
        have := extract_take s q (k - q)
        rwa [show q + (k - q) = k by omega] at this
      have hAl : A.length + q ≤ k ∧ A.length ≤ 100000 := by
        have h1 : A.length ≤ k - q := by rw [hA, htw, List.length_take]; omega
        omega
      have hqk' : (q : Int) ≤ (k : Int) := by omega
      have hks' : (k : Int) ≤ (s.size : Int) := by omega
      have hlen : q < q2 := by
        rcases Nat.lt_or_ge k s.size with h | h
        · have := hqq h; omega
        · omega
      have HDQ := hide hdq
      have HA := hide hA
      have HST : Hid (∀ L : List UInt8, L = (if tabs then Lib.trimLeftB A 9 else A) → (if L = en then some (acc, s.data.toList.drop q2) else takeL F tabs en (s.data.toList.drop q2) (acc ++ L ++ [10])) = T) := hide (by
        intro L hL
        rw [← unhide HTK, takeL_hit (L := L) hne (by rw [hL, hA]), hdq])
      clear hdk hdq htw hA hqq HTK
      obtain ⟨wA, hwA⟩ : ∃ y, y = wr := ⟨_, rfl⟩
      subst hwA
      go_wp2_with fail
      clear hex
      go_loopw [14] (fun y wr => ∃ (x : ByteArray), y = .string x ∧ x.size ≤ A.length ∧ wr = wA ∧ Hid ((if tabs then Lib.trimLeftB x.data.toList 9 else x.data.toList) = (if tabs then Lib.trimLeftB A 9 else A))) (fun y _ => strLen y)
      case atStart => exact ⟨BA A, rfl, Nat.le_refl _, rfl, hide rfl⟩
      case round =>
        obtain ⟨x, rfl, hxA, rfl, HX⟩ := hrel
        have hgo : (tabs = true ∧ ∃ h : 0 < x.size, x[0] = 9) ∨ x.data.toList = (if tabs then Lib.trimLeftB A 9 else A) := by
          cases tabs with
          | false => exact .inr (unhide HX)
          | true =>
            rcases Nat.eq_zero_or_pos x.size with h0 | h0
            · right
              rw [← unhide HX, empty_of h0]
              rfl
            · by_cases h9 : x[0] = 9
              · exact .inl ⟨rfl, h0, h9⟩
              · right
                rw [← unhide HX]
                show x.data.toList = Lib.trimLeftB x.data.toList 9
                rw [ext_front h0, trim_stop h9]
        by_cases hg : tabs = true ∧ ∃ h : 0 < x.size, x[0] = 9
        · obtain ⟨rfl, h0, h9⟩ := hg
          have hemp := not_empty h0
          have v9 : (x[0].toNat : Int) = 9 := by rw [h9]; rfl
          have h0' : (0 : Int) < (x.size : Int) := by omega
          have h1' : (1 : Int) ≤ (x.size : Int) := by omega
          have HX2 : Hid (Lib.trimLeftB (x.extract 1 x.size).data.toList 9 = Lib.trimLeftB A 9) := hide (by
            have h : Lib.trimLeftB x.data.toList 9 = Lib.trimLeftB A 9 := unhide HX
            rwa [ext_front h0, h9, trim_step] at h)
          have hsz : (x.extract 1 x.size).size + 1 ≤ x.size := by rw [ext_size]; omega
          clear h9 hgo
          go_wp2
          go_roundw
          case rel => exact ⟨x.extract 1 x.size, rfl, by omega, by trivial, HX2⟩
          case measure => simp only [strLen]; omega
        · have hxL : x.data.toList = (if tabs then Lib.trimLeftB A 9 else A) := hgo.resolve_left hg
          have hstep := unhide HST x.data.toList hxL
          have HSTP := hide hstep
          clear hgo hstep HST hxL HX
          have hcond : tabs = true → ∀ h : 0 < x.size, x[0] ≠ 9 := fun h1 h2 h3 => hg ⟨h1, h2, h3⟩
          have HCD := hide hcond
          clear hcond hg
          have hacs : (BA acc).size ≤ 200000 := by rw [BA_size]; omega
          have haccl : acc.length ≤ 200000 := by omega
          have HS1 : Hid (BA acc ++ x ++ ⟨#[10]⟩ = BA (acc ++ x.data.toList ++ [10])) := hide (by
            apply ByteArray.ext
            apply Array.ext'
            simp [BA])
          by_cases hLe : x.data.toList = en
          · have hc : (x.toList == (BA en).toList) = true := by rw [ByteArray.toList_eq, ByteArray.toList_eq, hLe]; exact beq_self_eq_true _
            have HTS : Hid (T = some (acc, s.data.toList.drop q2)) := hide (by rw [← unhide HSTP, if_pos hLe])
            clear hLe
            cases tabs with
            | false =>
              go_wp2
              go_ret3
              rw [unhide HTS]
              exact ⟨rfl, q2, hq2s, rfl, rfl⟩
            | true =>
              rcases Nat.eq_zero_or_pos x.size with h0 | h0
              · have hemp := is_empty h0
                go_wp2
                go_ret3
                rw [unhide HTS]
                exact ⟨rfl, q2, hq2s, rfl, rfl⟩
              · have hemp := not_empty h0
                have h9 := unhide HCD rfl h0
                have v9 : ¬ (x[0].toNat : Int) = 9 := fun e => h9 (UInt8.toNat_inj.1 (show x[0].toNat = 9 by omega))
                have h0' : (0 : Int) < (x.size : Int) := by omega
                clear h9
                go_wp2
                go_ret3
                rw [unhide HTS]
                exact ⟨rfl, q2, hq2s, rfl, rfl⟩
          · have hc : (x.toList == (BA en).toList) = false := by
              rw [beq_eq_false_iff_ne, ByteArray.toList_eq, ByteArray.toList_eq]
              exact hLe
            have HTS : Hid (takeL F tabs en (s.data.toList.drop q2) (acc ++ x.data.toList ++ [10]) = T) := hide (by rw [← unhide HSTP, if_neg hLe])
            clear hLe
            cases tabs with
            | false =>
              go_wp2
              go_roundw
              case rel => exact ⟨q2, F, acc ++ x.data.toList ++ [10], rfl, by rw [← unhide HS1], hq2s, by trivial, hide ⟨by omega, by rw [List.length_append, List.length_append, data_len, List.length_singleton]; omega, unhide HTS⟩⟩
              case measure => simp [intOf]; omega
            | true =>
              rcases Nat.eq_zero_or_pos x.size with h0 | h0
              · have hemp := is_empty h0
                go_wp2
                go_roundw
                case rel => exact ⟨q2, F, acc ++ x.data.toList ++ [10], rfl, by rw [← unhide HS1], hq2s, by trivial, hide ⟨by omega, by rw [List.length_append, List.length_append, data_len, List.length_singleton]; omega, unhide HTS⟩⟩
                case measure => simp [intOf]; omega
              · have hemp := not_empty h0
                have h9 := unhide HCD rfl h0
                have v9 : ¬ (x[0].toNat : Int) = 9 := fun e => h9 (UInt8.toNat_inj.1 (show x[0].toNat = 9 by omega))
                have h0' : (0 : Int) < (x.size : Int) := by omega
                clear h9
                go_wp2
                go_roundw
                case rel => exact ⟨q2, F, acc ++ x.data.toList ++ [10], rfl, by rw [← unhide HS1], hq2s, by trivial, hide ⟨by omega, by rw [List.length_append, List.length_append, data_len, List.length_singleton]; omega, unhide HTS⟩⟩
                case measure => simp [intOf]; omega
    · have hlt' : ¬ (q : Int) < (s.size : Int) := by omega
      have HTN : Hid (T = none) := hide (by rw [← (unhide HI).2.2, drop_nil (by omega), takeL_nil])
      go_wp2
      go_ret3
      rw [unhide HTN]
      exact ⟨rfl, q, hq, rfl, by omega⟩

end Go.Proofs.YtlmpdfeidjnmnaaDoor

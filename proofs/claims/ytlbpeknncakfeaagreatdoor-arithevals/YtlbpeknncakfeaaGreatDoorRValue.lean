/-
  The contract of the document's 'Value'.
-/
import Derived.Test.YtlbpeknncakfeaaGreatDoorNumPlain
import Derived.Test.YtlbpeknncakfeaaGreatDoorValue
namespace Go.Proofs.YtlbpeknncakfeaaGreatDoor
open Go.RowKit

def strLen : Value → Nat
  | .string x => x.size
  | _ => 0
theorem gap_all : ∀ n : Fin 256, gaps.contains (UInt8.ofNat n.val) = gapB (n.val : Int) := by decide +kernel
theorem gap_contains (b : UInt8) : gaps.contains b = gapB (b.toNat : Int) := by
  have h := gap_all ⟨b.toNat, b.toNat_lt⟩
  simpa using h
theorem left_drop {x : ByteArray} (h : 0 < x.size) (hg : gapB (x[0].toNat : Int) = true) : Lib.trimLeftS (x.extract 1 x.size).data.toList gaps = Lib.trimLeftS x.data.toList gaps := by
  obtain ⟨⟨l⟩⟩ := x
  cases l with
  | nil => exact absurd h (by decide)
  | cons b l =>
    have hb : gaps.contains b = true := by rw [gap_contains]; exact hg
    have e : (ByteArray.extract ⟨⟨b :: l⟩⟩ 1 (ByteArray.size ⟨⟨b :: l⟩⟩)).data.toList = l := by
      rw [ByteArray.data_extract]
      show ((⟨b :: l⟩ : Array UInt8).extract 1 (b :: l).length).toList = l
      simp
    rw [e]
    show _ = (b :: l).dropWhile (gaps.contains ·)
    rw [List.dropWhile_cons, if_pos hb]
    rfl
theorem left_stop {x : ByteArray} (h : x.size = 0 ∨ ∃ h : 0 < x.size, gapB (x[0].toNat : Int) = false) : Lib.trimLeftS x.data.toList gaps = x.data.toList := by
  obtain ⟨⟨l⟩⟩ := x
  cases l with
  | nil => rfl
  | cons b l =>
    rcases h with h | ⟨h, hg⟩
    · exact absurd h (by show ¬ (b :: l).length = 0; simp)
    · have hb : gaps.contains b = false := by rw [gap_contains]; exact hg
      show (b :: l).dropWhile (gaps.contains ·) = b :: l
      rw [List.dropWhile_cons, if_neg (by rw [hb]; simp)]

theorem last_drop {x : ByteArray} (h : 0 < x.size) (hg : gapB (x[x.size - 1].toNat : Int) = true) : Lib.trimRightS (x.extract 0 (x.size - 1)).data.toList gaps = Lib.trimRightS x.data.toList gaps := by
  have hne : x.data.toList ≠ [] := by
    intro e
    have : x.data.toList.length = 0 := by rw [e]; rfl
    have h' : 0 < x.data.size := h
    simp at this
    simp [this] at h'
  have hlen : x.data.toList.length = x.size := by simp
  have hsp : x.data.toList = x.data.toList.take (x.size - 1) ++ [x[x.size - 1]] := by
    have h1 := List.take_append_getElem (l := x.data.toList) (i := x.size - 1) (by rw [hlen]; omega)
    rw [show x.size - 1 + 1 = x.data.toList.length by rw [hlen]; omega, List.take_length] at h1
    rw [← h1]
    congr 1
    simp
  have e : (x.extract 0 (x.size - 1)).data.toList = x.data.toList.take (x.size - 1) := by
    rw [ByteArray.data_extract]
    simp
    rw [List.dropLast_eq_take, hlen]
  have hb : gaps.contains x[x.size - 1] = true := by rw [gap_contains]; exact hg
  rw [e]
  unfold Lib.trimRightS
  conv => rhs; rw [hsp]
  rw [List.reverse_append, List.reverse_singleton, List.singleton_append, List.dropWhile_cons, if_pos hb]

theorem last_split {x : ByteArray} (h : 0 < x.size) : x.data.toList = x.data.toList.take (x.size - 1) ++ [x[x.size - 1]] := by
  have hlen : x.data.toList.length = x.size := by simp
  have h1 := List.take_append_getElem (l := x.data.toList) (i := x.size - 1) (by rw [hlen]; omega)
  rw [show x.size - 1 + 1 = x.data.toList.length by rw [hlen]; omega, List.take_length] at h1
  rw [← h1]
  congr 1
  simp
theorem last_stop {x : ByteArray} (h : 0 < x.size) (hg : gapB (x[x.size - 1].toNat : Int) = false) : Lib.trimRightS x.data.toList gaps = x.data.toList := by
  have hb : gaps.contains x[x.size - 1] = false := by rw [gap_contains]; exact hg
  have hsp := last_split h
  unfold Lib.trimRightS
  rw [hsp, List.reverse_append, List.reverse_singleton, List.singleton_append, List.dropWhile_cons, if_neg (by rw [hb]; simp)]
  simp
theorem sbb_front {y : ByteArray} {m : Nat} (h : 0 < m) (hm : m ≤ y.size) : sbb (y.extract 0 m) 0 = sbb y 0 := by
  unfold sbb
  rw [ByteArray.data_extract]
  have hm' : m ≤ y.data.size := hm
  have e : (y.data.extract 0 m)[0]? = y.data[0]? := by
    rw [Array.getElem?_eq_getElem (by rw [Array.size_extract]; omega), Array.getElem?_eq_getElem (by omega)]
    simp
  rw [e]
theorem rpuS_bounds {B u : Int} (hB : 1 ≤ B) (hB2 : B ≤ 16) {t : ByteArray} (h : rpuS B t = some u) : 0 ≤ u ∧ u ≤ 9223372036854775808 := by
  rw [rpuS_eq hB hB2] at h
  obtain ⟨h1, h2⟩ := atMost_some h
  exact ⟨puS_nonneg (by omega) h1, h2⟩
theorem rnumW_bounds {t : ByteArray} {u : Int} (h : rnumW t = some u) : 0 ≤ u ∧ u ≤ 9223372036854775808 := by
  unfold rnumW at h
  split at h
  · split at h
    · exact rpuS_bounds (by omega) (by omega) h
    · exact rpuS_bounds (by omega) (by omega) h
  · exact rpuS_bounds (by omega) (by omega) h

/-- A text without gaps ahead and behind. -/
def rtrim (s : ByteArray) : ByteArray := ⟨(Lib.trimRightS (Lib.trimLeftS s.data.toList gaps) gaps).toArray⟩
def rvalS (s : ByteArray) : Option Int :=
  if (rtrim s).size = 0 then some 0
  else if sbb (rtrim s) 0 = 45 then (rnumW ((rtrim s).extract 1 (rtrim s).size)).map (fun n => -n)
  else if sbb (rtrim s) 0 = 43 then atMost 9223372036854775807 (rnumW ((rtrim s).extract 1 (rtrim s).size))
  else atMost 9223372036854775807 (rnumW (rtrim s))

set_option maxRecDepth 100000 in
set_option maxHeartbeats 8000000 in
theorem rvalue_any (s : ByteArray) (w : World) (hs : s.size ≤ 100000) :
    Calls Tryz.prog 11 #[.string s] w fun e w' => ValEnd (rvalS s) e ∧ w' = w := by
  go_enter Tryz.func11, Tryz.ntmps11
  go_wp2
  go_loop [0] (fun v => ∃ x : ByteArray, v = .string x ∧ x.size ≤ s.size ∧ Lib.trimLeftS x.data.toList gaps = Lib.trimLeftS s.data.toList gaps) (fun v => strLen v)
  case atStart => exact ⟨s, rfl, Nat.le_refl _, rfl⟩
  case round =>
    obtain ⟨x, rfl, hxs, htl⟩ := hrel
    have HTL := hide htl
    clear htl
    by_cases h0 : x.size = 0
    · have hem := empty_of h0
      have HF : Hid (rvalS s = some 0) := hide (by
        have e : rtrim s = ⟨#[]⟩ := by unfold rtrim; rw [← unhide HTL, left_stop (.inl h0)]; have : x.data.toList = [] := List.eq_nil_of_length_eq_zero (by simpa using h0); rw [this]; rfl
        unfold rvalS; rw [e]; rfl)
      go_wp2
      go_loop [0] (fun v => v = .string x) (fun v => strLen v)
      case atStart => rfl
      case round =>
        subst hrel
        go_wp2
        go_ret2
        exact ⟨by rw [unhide HF]; rfl, rfl⟩
    · have hxp : 0 < x.size := by omega
      have hem := nonempty_of hxp
      have HG := hide (gap_any (x[0].toNat : Int) w)
      rcases Bool.eq_false_or_eq_true (gapB (x[0].toNat : Int)) with hg | hg
      · rw [hg] at HG
        have hsz : (x.extract 1 x.size).size < x.size := by rw [ByteArray.size_extract]; omega
        have HN : Hid (Lib.trimLeftS (x.extract 1 x.size).data.toList gaps = Lib.trimLeftS s.data.toList gaps) := hide (by rw [left_drop hxp hg]; exact unhide HTL)
        clear hg
        go_wp2_with fail
        refine (unhide HG).mono ?_
        rintro ee x1 ⟨rfl, hx1⟩
        have hx2 := hx1.symm
        subst hx2
        clear hx1
        go_wp2
        go_round
        case rel => exact ⟨x.extract 1 x.size, rfl, by omega, unhide HN⟩
        case measure => exact hsz
      · rw [hg] at HG
        have HX0 := hide hg
        have HXL : Hid (x.data.toList = Lib.trimLeftS s.data.toList gaps) := hide (by rw [← unhide HTL, left_stop (.inr ⟨hxp, hg⟩)])
        clear hg
        go_wp2_with fail
        refine (unhide HG).mono ?_
        rintro ee x1 ⟨rfl, hx1⟩
        have hx2 := hx1.symm
        subst hx2
        clear hx1
        go_wp2
        go_loop [0] (fun v => ∃ y : ByteArray, v = .string y ∧ 0 < y.size ∧ y.size ≤ x.size ∧ sbb y 0 = sbb x 0 ∧ Lib.trimRightS y.data.toList gaps = Lib.trimRightS x.data.toList gaps) (fun v => strLen v)
        case atStart => exact ⟨x, rfl, hxp, Nat.le_refl _, rfl, rfl⟩
        case round =>
          obtain ⟨y, rfl, hyp, hyx, hyb, htr⟩ := hrel
          have HTR := hide htr
          have HYB := hide hyb
          clear htr hyb
          have hemy := nonempty_of hyp
          obtain ⟨m, hm⟩ : ∃ m : Nat, (y.size : Int) - 1 = (m : Int) := ⟨y.size - 1, by omega⟩
          have hmy : m < y.size := by omega
          have HME : Hid (y.size - 1 = m) := hide (by omega)
          have HG2 := hide (gap_any (y[m].toNat : Int) w)
          rcases Bool.eq_false_or_eq_true (gapB (y[m].toNat : Int)) with hg | hg
          · rw [hg] at HG2
            have hm0 : 0 < m := by
              rcases Nat.eq_zero_or_pos m with e | e
              · subst e
                have h1 := unhide HYB
                rw [sbb_eq hyp, sbb_eq hxp] at h1
                rw [h1] at hg
                rw [unhide HX0] at hg
                cases hg
              · exact e
            have hsz : (y.extract 0 m).size = m := by rw [ByteArray.size_extract]; omega
            have HN1 : Hid (sbb (y.extract 0 m) 0 = sbb x 0) := hide (by rw [sbb_front hm0 (by omega)]; exact unhide HYB)
            have HN2 : Hid (Lib.trimRightS (y.extract 0 m).data.toList gaps = Lib.trimRightS x.data.toList gaps) := hide (by
              have hme := unhide HME
              have h := last_drop hyp (by simp only [hme]; exact hg)
              rw [hme] at h
              rw [h]; exact unhide HTR)
            clear hg
            go_wp2_with fail
            refine (unhide HG2).mono ?_
            rintro ee x1 ⟨rfl, hx1⟩
            have hx2 := hx1.symm
            subst hx2
            clear hx1
            go_wp2
            go_round
            case rel => exact ⟨y.extract 0 m, rfl, by omega, by omega, unhide HN1, unhide HN2⟩
            case measure => show (y.extract 0 m).size < y.size; omega
          · rw [hg] at HG2
            have HRT : Hid (rtrim s = y) := hide (by
              have hme := unhide HME
              have h := last_stop hyp (by simp only [hme]; exact hg)
              unfold rtrim
              rw [← unhide HXL, ← unhide HTR, h])
            have HV0 : Hid (rvalS s = if sbb y 0 = 45 then (rnumW (y.extract 1 y.size)).map (fun n => -n) else if sbb y 0 = 43 then atMost 9223372036854775807 (rnumW (y.extract 1 y.size)) else atMost 9223372036854775807 (rnumW y)) := hide (by unfold rvalS; rw [unhide HRT, if_neg (by omega)])
            clear hg
            by_cases h45 : (y[0].toNat : Int) = 45
            · have HV : Hid (rvalS s = (rnumW (y.extract 1 y.size)).map (fun n => -n)) := hide (by rw [unhide HV0, if_pos (by rw [sbb_eq hyp]; exact h45)])
              have HNA := hide (rnum_any (y.extract 1 y.size) w (by rw [ByteArray.size_extract]; omega))
              rcases hr : rnumW (y.extract 1 y.size) with _ | u
              · have HF : Hid (rvalS s = none) := hide (by rw [unhide HV, hr]; rfl)
                have HN : Hid (Calls Tryz.prog 23 #[.string (y.extract 1 y.size)] w fun e w' => e = .returned (.tuple #[.int .u64 0, .bool false]) ∧ w' = w) := hide (by have h := unhide HNA; rw [hr] at h; exact h)
                clear hr
                go_wp2_with fail
                refine (unhide HG2).mono ?_
                rintro ee x1 ⟨rfl, hx1⟩
                have hx2 := hx1.symm
                subst hx2
                clear hx1
                go_wp2_with fail
                refine (unhide HN).mono ?_
                rintro e w2 ⟨rfl, hw2⟩
                have hw3 := hw2.symm
                subst hw3
                clear hw2
                go_wp2
                go_ret2
                exact ⟨by rw [unhide HF]; rfl, rfl⟩
              · have hub := rnumW_bounds hr
                have HN : Hid (Calls Tryz.prog 23 #[.string (y.extract 1 y.size)] w fun e w' => e = .returned (.tuple #[.int .u64 u, .bool true]) ∧ w' = w) := hide (by have h := unhide HNA; rw [hr] at h; exact h)
                have HF : Hid (rvalS s = some (-u)) := hide (by rw [unhide HV, hr]; rfl)
                have hneg : IntKind.i64.wrap (IntKind.u64.wrap (-u)) = -u := by rw [IntKind.wrap_u64, IntKind.wrap_i64]; omega
                clear hr
                by_cases hu : u = 9223372036854775808
                · subst hu
                  go_wp2_with fail
                  refine (unhide HG2).mono ?_
                  rintro ee x1 ⟨rfl, hx1⟩
                  have hx2 := hx1.symm
                  subst hx2
                  clear hx1
                  go_wp2_with fail
                  refine (unhide HN).mono ?_
                  rintro e w2 ⟨rfl, hw2⟩
                  have hw3 := hw2.symm
                  subst hw3
                  clear hw2
                  go_wp2
                  go_ret2
                  exact ⟨by rw [unhide HF]; rfl, rfl⟩
                · have hub2 : (u == 9223372036854775808) = false := by simpa using hu
                  go_wp2_with fail
                  refine (unhide HG2).mono ?_
                  rintro ee x1 ⟨rfl, hx1⟩
                  have hx2 := hx1.symm
                  subst hx2
                  clear hx1
                  go_wp2_with fail
                  refine (unhide HN).mono ?_
                  rintro e w2 ⟨rfl, hw2⟩
                  have hw3 := hw2.symm
                  subst hw3
                  clear hw2
                  go_wp2
                  go_ret2
                  exact ⟨by rw [unhide HF]; rfl, rfl⟩
            · have h45b : ((y[0].toNat : Int) == 45) = false := by simpa using h45
              by_cases h43 : (y[0].toNat : Int) = 43
              · have HV : Hid (rvalS s = atMost 9223372036854775807 (rnumW (y.extract 1 y.size))) := hide (by rw [unhide HV0, if_neg (by rw [sbb_eq hyp]; exact h45), if_pos (by rw [sbb_eq hyp]; exact h43)])
                have HNA := hide (rnum_any (y.extract 1 y.size) w (by rw [ByteArray.size_extract]; omega))
                rcases hr : rnumW (y.extract 1 y.size) with _ | u
                · have HF : Hid (rvalS s = none) := hide (by rw [unhide HV, hr]; rfl)
                  have HN : Hid (Calls Tryz.prog 23 #[.string (y.extract 1 y.size)] w fun e w' => e = .returned (.tuple #[.int .u64 0, .bool false]) ∧ w' = w) := hide (by have h := unhide HNA; rw [hr] at h; exact h)
                  clear hr
                  go_wp2_with fail
                  refine (unhide HG2).mono ?_
                  rintro ee x1 ⟨rfl, hx1⟩
                  have hx2 := hx1.symm
                  subst hx2
                  clear hx1
                  go_wp2_with fail
                  refine (unhide HN).mono ?_
                  rintro e w2 ⟨rfl, hw2⟩
                  have hw3 := hw2.symm
                  subst hw3
                  clear hw2
                  go_wp2
                  go_ret2
                  exact ⟨by rw [unhide HF]; rfl, rfl⟩
                · have hub := rnumW_bounds hr
                  have HN : Hid (Calls Tryz.prog 23 #[.string (y.extract 1 y.size)] w fun e w' => e = .returned (.tuple #[.int .u64 u, .bool true]) ∧ w' = w) := hide (by have h := unhide HNA; rw [hr] at h; exact h)
                  by_cases hu : u = 9223372036854775808
                  · have HF : Hid (rvalS s = none) := hide (by rw [unhide HV, hr, hu]; rfl)
                    subst hu
                    clear hr
                    go_wp2_with fail
                    refine (unhide HG2).mono ?_
                    rintro ee x1 ⟨rfl, hx1⟩
                    have hx2 := hx1.symm
                    subst hx2
                    clear hx1
                    go_wp2_with fail
                    refine (unhide HN).mono ?_
                    rintro e w2 ⟨rfl, hw2⟩
                    have hw3 := hw2.symm
                    subst hw3
                    clear hw2
                    go_wp2
                    go_ret2
                    exact ⟨by rw [unhide HF]; rfl, rfl⟩
                  · have HF : Hid (rvalS s = some u) := hide (by rw [unhide HV, hr]; simp only [atMost]; rw [if_pos (by omega)])
                    have hub2 : (u == 9223372036854775808) = false := by simpa using hu
                    have hneg : IntKind.i64.wrap u = u := by rw [IntKind.wrap_i64]; omega
                    clear hr
                    go_wp2_with fail
                    refine (unhide HG2).mono ?_
                    rintro ee x1 ⟨rfl, hx1⟩
                    have hx2 := hx1.symm
                    subst hx2
                    clear hx1
                    go_wp2_with fail
                    refine (unhide HN).mono ?_
                    rintro e w2 ⟨rfl, hw2⟩
                    have hw3 := hw2.symm
                    subst hw3
                    clear hw2
                    go_wp2
                    go_ret2
                    exact ⟨by rw [unhide HF]; rfl, rfl⟩
              · have h43b : ((y[0].toNat : Int) == 43) = false := by simpa using h43
                have HV : Hid (rvalS s = atMost 9223372036854775807 (rnumW y)) := hide (by rw [unhide HV0, if_neg (by rw [sbb_eq hyp]; exact h45), if_neg (by rw [sbb_eq hyp]; exact h43)])
                have HNA := hide (rnum_any y w (by omega))
                rcases hr : rnumW y with _ | u
                · have HF : Hid (rvalS s = none) := hide (by rw [unhide HV, hr]; rfl)
                  have HN : Hid (Calls Tryz.prog 23 #[.string y] w fun e w' => e = .returned (.tuple #[.int .u64 0, .bool false]) ∧ w' = w) := hide (by have h := unhide HNA; rw [hr] at h; exact h)
                  clear hr
                  go_wp2_with fail
                  refine (unhide HG2).mono ?_
                  rintro ee x1 ⟨rfl, hx1⟩
                  have hx2 := hx1.symm
                  subst hx2
                  clear hx1
                  go_wp2_with fail
                  refine (unhide HN).mono ?_
                  rintro e w2 ⟨rfl, hw2⟩
                  have hw3 := hw2.symm
                  subst hw3
                  clear hw2
                  go_wp2
                  go_ret2
                  exact ⟨by rw [unhide HF]; rfl, rfl⟩
                · have hub := rnumW_bounds hr
                  have HN : Hid (Calls Tryz.prog 23 #[.string y] w fun e w' => e = .returned (.tuple #[.int .u64 u, .bool true]) ∧ w' = w) := hide (by have h := unhide HNA; rw [hr] at h; exact h)
                  by_cases hu : u = 9223372036854775808
                  · have HF : Hid (rvalS s = none) := hide (by rw [unhide HV, hr, hu]; rfl)
                    subst hu
                    clear hr
                    go_wp2_with fail
                    refine (unhide HG2).mono ?_
                    rintro ee x1 ⟨rfl, hx1⟩
                    have hx2 := hx1.symm
                    subst hx2
                    clear hx1
                    go_wp2_with fail
                    refine (unhide HN).mono ?_
                    rintro e w2 ⟨rfl, hw2⟩
                    have hw3 := hw2.symm
                    subst hw3
                    clear hw2
                    go_wp2
                    go_ret2
                    exact ⟨by rw [unhide HF]; rfl, rfl⟩
                  · have HF : Hid (rvalS s = some u) := hide (by rw [unhide HV, hr]; simp only [atMost]; rw [if_pos (by omega)])
                    have hub2 : (u == 9223372036854775808) = false := by simpa using hu
                    have hneg : IntKind.i64.wrap u = u := by rw [IntKind.wrap_i64]; omega
                    clear hr
                    go_wp2_with fail
                    refine (unhide HG2).mono ?_
                    rintro ee x1 ⟨rfl, hx1⟩
                    have hx2 := hx1.symm
                    subst hx2
                    clear hx1
                    go_wp2_with fail
                    refine (unhide HN).mono ?_
                    rintro e w2 ⟨rfl, hw2⟩
                    have hw3 := hw2.symm
                    subst hw3
                    clear hw2
                    go_wp2
                    go_ret2
                    exact ⟨by rw [unhide HF]; rfl, rfl⟩

end Go.Proofs.YtlbpeknncakfeaaGreatDoor

/-
  The contracts of the document's 'digit' and 'number'.
-/
import Derived.Test.YtlbpeknncakfeaaGreatDoorPuint
namespace Go.Proofs.YtlbpeknncakfeaaGreatDoor
open Go.RowKit

/-- A digit's number, as the document has it. -/
def rdg (c : Int) : Int := if 48 ≤ c ∧ c ≤ 57 then c - 48 else if 97 ≤ c ∧ c ≤ 102 then c - 97 + 10 else if 65 ≤ c ∧ c ≤ 70 then c - 65 + 10 else 99
theorem rdg_bounds {c : Int} : 0 ≤ rdg c ∧ rdg c ≤ 99 := by
  unfold rdg
  split
  · omega
  · split
    · omega
    · split <;> omega

set_option maxHeartbeats 2000000 in
theorem rdig_any (c : Int) (w : World) (h0 : 0 ≤ c) (h1 : c ≤ 255) : Calls Tryz.prog 40 #[.int .u8 c] w fun e w' => e = .returned (.int .i64 (rdg c)) ∧ w' = w := by
  by_cases a1 : 48 ≤ c ∧ c ≤ 57
  · obtain ⟨p1, p2⟩ := a1
    have hr : rdg c = c - 48 := by unfold rdg; rw [if_pos ⟨p1, p2⟩]
    have e1 : IntKind.u8.wrap (c - 48) = c - 48 := by rw [IntKind.wrap_u8]; omega
    have e2 : IntKind.i64.wrap (c - 48) = c - 48 := by rw [IntKind.wrap_i64]; omega
    rw [hr]
    go_enter Tryz.func40, Tryz.ntmps40
    go_wp2
    go_ret
    exact ⟨rfl, rfl⟩
  · have d1 : (decide (48 ≤ c) && decide (c ≤ 57)) = false := by simpa using a1
    by_cases a2 : 97 ≤ c ∧ c ≤ 102
    · obtain ⟨p1, p2⟩ := a2
      have q1 : 48 ≤ c := by omega
      have q2 : ¬ c ≤ 57 := by omega
      have hr : rdg c = c - 97 + 10 := by unfold rdg; rw [if_neg a1, if_pos ⟨p1, p2⟩]
      have e1 : IntKind.u8.wrap (c - 97) = c - 97 := by rw [IntKind.wrap_u8]; omega
      have e2 : IntKind.i64.wrap (c - 97) = c - 97 := by rw [IntKind.wrap_i64]; omega
      have e3 : IntKind.i64.wrap (c - 97 + 10) = c - 97 + 10 := by rw [IntKind.wrap_i64]; omega
      rw [hr]
      clear d1
      go_enter Tryz.func40, Tryz.ntmps40
      go_wp2
      go_ret
      exact ⟨rfl, rfl⟩
    · by_cases a3 : 65 ≤ c ∧ c ≤ 70
      · obtain ⟨p1, p2⟩ := a3
        have q1 : 48 ≤ c := by omega
        have q2 : ¬ c ≤ 57 := by omega
        have q3 : ¬ 97 ≤ c := by omega
        have hr : rdg c = c - 65 + 10 := by unfold rdg; rw [if_neg a1, if_neg a2, if_pos ⟨p1, p2⟩]
        have e1 : IntKind.u8.wrap (c - 65) = c - 65 := by rw [IntKind.wrap_u8]; omega
        have e2 : IntKind.i64.wrap (c - 65) = c - 65 := by rw [IntKind.wrap_i64]; omega
        have e3 : IntKind.i64.wrap (c - 65 + 10) = c - 65 + 10 := by rw [IntKind.wrap_i64]; omega
        rw [hr]
        clear d1
        go_enter Tryz.func40, Tryz.ntmps40
        go_wp2
        go_ret
        exact ⟨rfl, rfl⟩
      · have hr : rdg c = 99 := by unfold rdg; rw [if_neg a1, if_neg a2, if_neg a3]
        rw [hr]
        by_cases q1 : 48 ≤ c
        all_goals by_cases q2 : c ≤ 57
        all_goals by_cases q3 : 97 ≤ c
        all_goals by_cases q4 : c ≤ 102
        all_goals by_cases q5 : 65 ≤ c
        all_goals by_cases q6 : c ≤ 70
        all_goals first
          | omega
          | (clear d1 a1 a2 a3; go_enter Tryz.func40, Tryz.ntmps40; go_wp2; go_ret; exact ⟨rfl, rfl⟩)

/-- A number's word at a base, up to 2 to the 63. -/
def rpu (B : Int) : List Int → Int → Option Int
  | [], u => some u
  | c :: cs, u => if rdg c < B ∧ u * B + rdg c ≤ 9223372036854775808 then rpu B cs (u * B + rdg c) else none
theorem rpu_step {B u : Int} {l : List Int} {k : Nat} (h : k < l.length) (h1 : rdg l[k] < B) (h2 : u * B + rdg l[k] ≤ 9223372036854775808) : rpu B (l.drop k) u = rpu B (l.drop (k + 1)) (u * B + rdg l[k]) := by
  rw [List.drop_eq_getElem_cons h, rpu, if_pos ⟨h1, h2⟩]
theorem rpu_stop {B u : Int} {l : List Int} {k : Nat} (h : k < l.length) (h1 : ¬ (rdg l[k] < B ∧ u * B + rdg l[k] ≤ 9223372036854775808)) : rpu B (l.drop k) u = none := by
  rw [List.drop_eq_getElem_cons h, rpu, if_neg h1]
def rpuS (B : Int) (t : ByteArray) : Option Int := if t.size = 0 then none else rpu B (bsL t) 0
def RnEnd (r : Option Int) (e : Ending) : Prop := match r with
  | some u => e = .returned (.tuple #[.int .u64 u, .bool true])
  | none => e = .returned (.tuple #[.int .u64 0, .bool false])

def sbb (t : ByteArray) (i : Nat) : Int := ((t.data[i]?.getD 0).toNat : Int)
theorem sbb_eq {t : ByteArray} {i : Nat} (h : i < t.size) : sbb t i = (t[i].toNat : Int) := by
  have h' : i < t.data.size := h
  unfold sbb
  rw [Array.getElem?_eq_getElem h']
  rfl
/-- The number of a number's word, up to 2 to the 63. -/
def rnumW (t : ByteArray) : Option Int :=
  if 1 < t.size ∧ sbb t 0 = 48 then (if 1 < (t.extract 1 t.size).size ∧ (sbb (t.extract 1 t.size) 0 = 120 ∨ sbb (t.extract 1 t.size) 0 = 88) then rpuS 16 ((t.extract 1 t.size).extract 1 (t.extract 1 t.size).size) else rpuS 8 (t.extract 1 t.size))
  else rpuS 10 t

set_option maxRecDepth 100000 in
set_option maxHeartbeats 8000000 in
theorem rnum_any (t : ByteArray) (w : World) (ht : t.size ≤ 100000) :
    Calls Tryz.prog 23 #[.string t] w fun e w' => RnEnd (rnumW t) e ∧ w' = w := by
  by_cases h0 : t.size = 0
  · have hem := empty_of h0
    have hi : ¬ (1 : Int) < (t.size : Int) := by omega
    have HFIN : Hid (rnumW t = none) := hide (by unfold rnumW; rw [if_neg (by omega)]; unfold rpuS; rw [if_pos h0])
    go_enter Tryz.func23, Tryz.ntmps23
    go_wp2
    go_ret2
    exact ⟨by rw [unhide HFIN]; rfl, rfl⟩
  · have hem := nonempty_of (show 0 < t.size by omega)
    have h1 : 0 < t.size := by omega
    by_cases hi : (1 : Int) < (t.size : Int)
    · by_cases hz : (t[0].toNat : Int) = 48
      · obtain ⟨sx, hx⟩ : ∃ sx, t.extract 1 t.size = sx := ⟨_, rfl⟩
        have hxs : sx.size = t.size - 1 := by rw [← hx, ByteArray.size_extract]; omega
        have hxp : 0 < sx.size := by omega
        have hemx := nonempty_of hxp
        have hxs2 : sx.size ≤ 100000 := by omega
        have HNW : Hid (rnumW t = if 1 < sx.size ∧ (sbb sx 0 = 120 ∨ sbb sx 0 = 88) then rpuS 16 (sx.extract 1 sx.size) else rpuS 8 sx) := hide (by unfold rnumW; rw [if_pos ⟨by omega, by rw [sbb_eq h1]; exact hz⟩, hx])
        clear hxs
        by_cases hj : (1 : Int) < (sx.size : Int)
        · by_cases hX : (sx[0].toNat : Int) = 120 ∨ (sx[0].toNat : Int) = 88
          · obtain ⟨sy, hy⟩ : ∃ sy, sx.extract 1 sx.size = sy := ⟨_, rfl⟩
            have hys : sy.size = sx.size - 1 := by rw [← hy, ByteArray.size_extract]; omega
            have hyp : 0 < sy.size := by omega
            have hemy := nonempty_of hyp
            have HFIN : Hid (rnumW t = rpuS 16 sy) := hide (by rw [unhide HNW, if_pos ⟨by omega, by rw [sbb_eq hxp]; exact hX⟩, hy])
            have hyb : sy.size ≤ 100000 := by omega
            clear hys
            have HR : Hid (rpuS 16 sy = rpu 16 (bsL sy) 0) := hide (by unfold rpuS; rw [if_neg (by omega)])
            rcases hX with hX | hX
            all_goals
              go_enter Tryz.func23, Tryz.ntmps23
              go_wp2
              go_loop [5, 7] (fun x i => ∃ (k : Nat) (u : Int), k ≤ sy.size ∧ x = .int .u64 u ∧ i = .int .i64 (k : Int) ∧ 0 ≤ u ∧ u ≤ 9223372036854775808 ∧ rpu 16 ((bsL sy).drop k) u = rpu 16 (bsL sy) 0) (fun _ i => sy.size - (intOf i).toNat)
              case atStart => exact ⟨0, 0, Nat.zero_le _, rfl, rfl, by omega, by omega, rfl⟩
              case round =>
                obtain ⟨k, u, hk, rfl, rfl, hu0, hu1, hpf⟩ := hrel
                have HPF := hide hpf
                clear hpf
                by_cases hlt : k < sy.size
                · obtain ⟨d, hd⟩ : ∃ d, d = rdg (sy[k].toNat : Int) := ⟨_, rfl⟩
                  have hdb : 0 ≤ d ∧ d ≤ 99 := by rw [hd]; exact rdg_bounds
                  have HD := hide (rdig_any (sy[k].toNat : Int) w (by omega) (by have := sy[k].toNat_lt; omega))
                  rw [← hd] at HD
                  have HDK : Hid (rdg ((bsL sy)[k]'(by rw [bsL_len]; exact hlt)) = d) := hide (by rw [bsL_get sy k hlt, hd])
                  clear hd
                  by_cases hdB : (16 : Int) ≤ d
                  · have HN : Hid (rpuS 16 sy = none) := hide (by rw [unhide HR, ← unhide HPF]; exact rpu_stop (by rw [bsL_len]; exact hlt) (by rw [unhide HDK]; omega))
                    go_wp2_with fail
                    refine (unhide HD).mono ?_
                    rintro ee x1 ⟨rfl, hx1⟩
                    have hx2 := hx1.symm
                    subst hx2
                    clear hx1
                    go_wp2
                    go_ret2
                    exact ⟨by rw [unhide HFIN, unhide HN]; rfl, rfl⟩
                  · have hdB2 : d < 16 := by omega
                    by_cases hq : u ≤ (9223372036854775808 - d) / 16
                    · have hov : u * 16 + d ≤ 9223372036854775808 := by omega
                      have hq2 : decide ((9223372036854775808 - d) / 16 < u) = false := by rw [decide_eq_false_iff_not]; omega
                      have hm : IntKind.u64.wrap (u * 16) = u * 16 := by rw [IntKind.wrap_u64]; omega
                      have hm2 : IntKind.u64.wrap (u * 16 + d) = u * 16 + d := by rw [IntKind.wrap_u64]; omega
                      have HN : Hid (rpu 16 ((bsL sy).drop (k + 1)) (u * 16 + d) = rpu 16 (bsL sy) 0) := hide (by have h := rpu_step (B := 16) (u := u) (l := bsL sy) (k := k) (by rw [bsL_len]; exact hlt) (by rw [unhide HDK]; omega) (by rw [unhide HDK]; omega); rw [unhide HDK, unhide HPF] at h; exact h.symm)
                      go_wp2_with fail
                      refine (unhide HD).mono ?_
                      rintro ee x1 ⟨rfl, hx1⟩
                      have hx2 := hx1.symm
                      subst hx2
                      clear hx1
                      go_wp2
                      go_round
                      case rel => exact ⟨k + 1, u * 16 + d, by omega, rfl, by go_num, by omega, by omega, unhide HN⟩
                      case measure => simp [intOf]; omega
                    · have hov : ¬ u * 16 + d ≤ 9223372036854775808 := by omega
                      have hq2 : (9223372036854775808 - d) / 16 < u := by omega
                      have HN : Hid (rpuS 16 sy = none) := hide (by rw [unhide HR, ← unhide HPF]; exact rpu_stop (by rw [bsL_len]; exact hlt) (by rw [unhide HDK]; omega))
                      go_wp2_with fail
                      refine (unhide HD).mono ?_
                      rintro ee x1 ⟨rfl, hx1⟩
                      have hx2 := hx1.symm
                      subst hx2
                      clear hx1
                      go_wp2
                      go_ret2
                      exact ⟨by rw [unhide HFIN, unhide HN]; rfl, rfl⟩
                · have hke : k = sy.size := by omega
                  have HN : Hid (rpuS 16 sy = some u) := hide (by rw [unhide HR, ← unhide HPF, hke, List.drop_eq_nil_of_le (by rw [bsL_len]; exact Nat.le_refl _)]; rfl)
                  go_wp2
                  go_ret2
                  exact ⟨by rw [unhide HFIN, unhide HN]; rfl, rfl⟩
          · have hX1 : ¬ (sx[0].toNat : Int) = 120 := fun e => hX (.inl e)
            have hX1b : ((sx[0].toNat : Int) == 120) = false := by simpa using hX1
            have hX2 : ¬ (sx[0].toNat : Int) = 88 := fun e => hX (.inr e)
            have hX2b : ((sx[0].toNat : Int) == 88) = false := by simpa using hX2
            have HFIN : Hid (rnumW t = rpuS 8 sx) := hide (by rw [unhide HNW, if_neg (by rw [sbb_eq hxp]; exact fun h => hX h.2)])
            have HR : Hid (rpuS 8 sx = rpu 8 (bsL sx) 0) := hide (by unfold rpuS; rw [if_neg (by omega)])
            go_enter Tryz.func23, Tryz.ntmps23
            go_wp2
            go_loop [5, 7] (fun x i => ∃ (k : Nat) (u : Int), k ≤ sx.size ∧ x = .int .u64 u ∧ i = .int .i64 (k : Int) ∧ 0 ≤ u ∧ u ≤ 9223372036854775808 ∧ rpu 8 ((bsL sx).drop k) u = rpu 8 (bsL sx) 0) (fun _ i => sx.size - (intOf i).toNat)
            case atStart => exact ⟨0, 0, Nat.zero_le _, rfl, rfl, by omega, by omega, rfl⟩
            case round =>
              obtain ⟨k, u, hk, rfl, rfl, hu0, hu1, hpf⟩ := hrel
              have HPF := hide hpf
              clear hpf
              by_cases hlt : k < sx.size
              · obtain ⟨d, hd⟩ : ∃ d, d = rdg (sx[k].toNat : Int) := ⟨_, rfl⟩
                have hdb : 0 ≤ d ∧ d ≤ 99 := by rw [hd]; exact rdg_bounds
                have HD := hide (rdig_any (sx[k].toNat : Int) w (by omega) (by have := sx[k].toNat_lt; omega))
                rw [← hd] at HD
                have HDK : Hid (rdg ((bsL sx)[k]'(by rw [bsL_len]; exact hlt)) = d) := hide (by rw [bsL_get sx k hlt, hd])
                clear hd
                by_cases hdB : (8 : Int) ≤ d
                · have HN : Hid (rpuS 8 sx = none) := hide (by rw [unhide HR, ← unhide HPF]; exact rpu_stop (by rw [bsL_len]; exact hlt) (by rw [unhide HDK]; omega))
                  go_wp2_with fail
                  refine (unhide HD).mono ?_
                  rintro ee x1 ⟨rfl, hx1⟩
                  have hx2 := hx1.symm
                  subst hx2
                  clear hx1
                  go_wp2
                  go_ret2
                  exact ⟨by rw [unhide HFIN, unhide HN]; rfl, rfl⟩
                · have hdB2 : d < 8 := by omega
                  by_cases hq : u ≤ (9223372036854775808 - d) / 8
                  · have hov : u * 8 + d ≤ 9223372036854775808 := by omega
                    have hq2 : decide ((9223372036854775808 - d) / 8 < u) = false := by rw [decide_eq_false_iff_not]; omega
                    have hm : IntKind.u64.wrap (u * 8) = u * 8 := by rw [IntKind.wrap_u64]; omega
                    have hm2 : IntKind.u64.wrap (u * 8 + d) = u * 8 + d := by rw [IntKind.wrap_u64]; omega
                    have HN : Hid (rpu 8 ((bsL sx).drop (k + 1)) (u * 8 + d) = rpu 8 (bsL sx) 0) := hide (by have h := rpu_step (B := 8) (u := u) (l := bsL sx) (k := k) (by rw [bsL_len]; exact hlt) (by rw [unhide HDK]; omega) (by rw [unhide HDK]; omega); rw [unhide HDK, unhide HPF] at h; exact h.symm)
                    go_wp2_with fail
                    refine (unhide HD).mono ?_
                    rintro ee x1 ⟨rfl, hx1⟩
                    have hx2 := hx1.symm
                    subst hx2
                    clear hx1
                    go_wp2
                    go_round
                    case rel => exact ⟨k + 1, u * 8 + d, by omega, rfl, by go_num, by omega, by omega, unhide HN⟩
                    case measure => simp [intOf]; omega
                  · have hov : ¬ u * 8 + d ≤ 9223372036854775808 := by omega
                    have hq2 : (9223372036854775808 - d) / 8 < u := by omega
                    have HN : Hid (rpuS 8 sx = none) := hide (by rw [unhide HR, ← unhide HPF]; exact rpu_stop (by rw [bsL_len]; exact hlt) (by rw [unhide HDK]; omega))
                    go_wp2_with fail
                    refine (unhide HD).mono ?_
                    rintro ee x1 ⟨rfl, hx1⟩
                    have hx2 := hx1.symm
                    subst hx2
                    clear hx1
                    go_wp2
                    go_ret2
                    exact ⟨by rw [unhide HFIN, unhide HN]; rfl, rfl⟩
              · have hke : k = sx.size := by omega
                have HN : Hid (rpuS 8 sx = some u) := hide (by rw [unhide HR, ← unhide HPF, hke, List.drop_eq_nil_of_le (by rw [bsL_len]; exact Nat.le_refl _)]; rfl)
                go_wp2
                go_ret2
                exact ⟨by rw [unhide HFIN, unhide HN]; rfl, rfl⟩
        · have HFIN : Hid (rnumW t = rpuS 8 sx) := hide (by rw [unhide HNW, if_neg (by omega)])
          have HR : Hid (rpuS 8 sx = rpu 8 (bsL sx) 0) := hide (by unfold rpuS; rw [if_neg (by omega)])
          go_enter Tryz.func23, Tryz.ntmps23
          go_wp2
          go_loop [5, 7] (fun x i => ∃ (k : Nat) (u : Int), k ≤ sx.size ∧ x = .int .u64 u ∧ i = .int .i64 (k : Int) ∧ 0 ≤ u ∧ u ≤ 9223372036854775808 ∧ rpu 8 ((bsL sx).drop k) u = rpu 8 (bsL sx) 0) (fun _ i => sx.size - (intOf i).toNat)
          case atStart => exact ⟨0, 0, Nat.zero_le _, rfl, rfl, by omega, by omega, rfl⟩
          case round =>
            obtain ⟨k, u, hk, rfl, rfl, hu0, hu1, hpf⟩ := hrel
            have HPF := hide hpf
            clear hpf
            by_cases hlt : k < sx.size
            · obtain ⟨d, hd⟩ : ∃ d, d = rdg (sx[k].toNat : Int) := ⟨_, rfl⟩
              have hdb : 0 ≤ d ∧ d ≤ 99 := by rw [hd]; exact rdg_bounds
              have HD := hide (rdig_any (sx[k].toNat : Int) w (by omega) (by have := sx[k].toNat_lt; omega))
              rw [← hd] at HD
              have HDK : Hid (rdg ((bsL sx)[k]'(by rw [bsL_len]; exact hlt)) = d) := hide (by rw [bsL_get sx k hlt, hd])
              clear hd
              by_cases hdB : (8 : Int) ≤ d
              · have HN : Hid (rpuS 8 sx = none) := hide (by rw [unhide HR, ← unhide HPF]; exact rpu_stop (by rw [bsL_len]; exact hlt) (by rw [unhide HDK]; omega))
                go_wp2_with fail
                refine (unhide HD).mono ?_
                rintro ee x1 ⟨rfl, hx1⟩
                have hx2 := hx1.symm
                subst hx2
                clear hx1
                go_wp2
                go_ret2
                exact ⟨by rw [unhide HFIN, unhide HN]; rfl, rfl⟩
              · have hdB2 : d < 8 := by omega
                by_cases hq : u ≤ (9223372036854775808 - d) / 8
                · have hov : u * 8 + d ≤ 9223372036854775808 := by omega
                  have hq2 : decide ((9223372036854775808 - d) / 8 < u) = false := by rw [decide_eq_false_iff_not]; omega
                  have hm : IntKind.u64.wrap (u * 8) = u * 8 := by rw [IntKind.wrap_u64]; omega
                  have hm2 : IntKind.u64.wrap (u * 8 + d) = u * 8 + d := by rw [IntKind.wrap_u64]; omega
                  have HN : Hid (rpu 8 ((bsL sx).drop (k + 1)) (u * 8 + d) = rpu 8 (bsL sx) 0) := hide (by have h := rpu_step (B := 8) (u := u) (l := bsL sx) (k := k) (by rw [bsL_len]; exact hlt) (by rw [unhide HDK]; omega) (by rw [unhide HDK]; omega); rw [unhide HDK, unhide HPF] at h; exact h.symm)
                  go_wp2_with fail
                  refine (unhide HD).mono ?_
                  rintro ee x1 ⟨rfl, hx1⟩
                  have hx2 := hx1.symm
                  subst hx2
                  clear hx1
                  go_wp2
                  go_round
                  case rel => exact ⟨k + 1, u * 8 + d, by omega, rfl, by go_num, by omega, by omega, unhide HN⟩
                  case measure => simp [intOf]; omega
                · have hov : ¬ u * 8 + d ≤ 9223372036854775808 := by omega
                  have hq2 : (9223372036854775808 - d) / 8 < u := by omega
                  have HN : Hid (rpuS 8 sx = none) := hide (by rw [unhide HR, ← unhide HPF]; exact rpu_stop (by rw [bsL_len]; exact hlt) (by rw [unhide HDK]; omega))
                  go_wp2_with fail
                  refine (unhide HD).mono ?_
                  rintro ee x1 ⟨rfl, hx1⟩
                  have hx2 := hx1.symm
                  subst hx2
                  clear hx1
                  go_wp2
                  go_ret2
                  exact ⟨by rw [unhide HFIN, unhide HN]; rfl, rfl⟩
            · have hke : k = sx.size := by omega
              have HN : Hid (rpuS 8 sx = some u) := hide (by rw [unhide HR, ← unhide HPF, hke, List.drop_eq_nil_of_le (by rw [bsL_len]; exact Nat.le_refl _)]; rfl)
              go_wp2
              go_ret2
              exact ⟨by rw [unhide HFIN, unhide HN]; rfl, rfl⟩
      · have hzb : ((t[0].toNat : Int) == 48) = false := by simpa using hz
        have HFIN : Hid (rnumW t = rpuS 10 t) := hide (by unfold rnumW; rw [if_neg (by rw [sbb_eq h1]; exact fun h => hz h.2)])
        have HR : Hid (rpuS 10 t = rpu 10 (bsL t) 0) := hide (by unfold rpuS; rw [if_neg (by omega)])
        go_enter Tryz.func23, Tryz.ntmps23
        go_wp2
        go_loop [5, 7] (fun x i => ∃ (k : Nat) (u : Int), k ≤ t.size ∧ x = .int .u64 u ∧ i = .int .i64 (k : Int) ∧ 0 ≤ u ∧ u ≤ 9223372036854775808 ∧ rpu 10 ((bsL t).drop k) u = rpu 10 (bsL t) 0) (fun _ i => t.size - (intOf i).toNat)
        case atStart => exact ⟨0, 0, Nat.zero_le _, rfl, rfl, by omega, by omega, rfl⟩
        case round =>
          obtain ⟨k, u, hk, rfl, rfl, hu0, hu1, hpf⟩ := hrel
          have HPF := hide hpf
          clear hpf
          by_cases hlt : k < t.size
          · obtain ⟨d, hd⟩ : ∃ d, d = rdg (t[k].toNat : Int) := ⟨_, rfl⟩
            have hdb : 0 ≤ d ∧ d ≤ 99 := by rw [hd]; exact rdg_bounds
            have HD := hide (rdig_any (t[k].toNat : Int) w (by omega) (by have := t[k].toNat_lt; omega))
            rw [← hd] at HD
            have HDK : Hid (rdg ((bsL t)[k]'(by rw [bsL_len]; exact hlt)) = d) := hide (by rw [bsL_get t k hlt, hd])
            clear hd
            by_cases hdB : (10 : Int) ≤ d
            · have HN : Hid (rpuS 10 t = none) := hide (by rw [unhide HR, ← unhide HPF]; exact rpu_stop (by rw [bsL_len]; exact hlt) (by rw [unhide HDK]; omega))
              go_wp2_with fail
              refine (unhide HD).mono ?_
              rintro ee x1 ⟨rfl, hx1⟩
              have hx2 := hx1.symm
              subst hx2
              clear hx1
              go_wp2
              go_ret2
              exact ⟨by rw [unhide HFIN, unhide HN]; rfl, rfl⟩
            · have hdB2 : d < 10 := by omega
              by_cases hq : u ≤ (9223372036854775808 - d) / 10
              · have hov : u * 10 + d ≤ 9223372036854775808 := by omega
                have hq2 : decide ((9223372036854775808 - d) / 10 < u) = false := by rw [decide_eq_false_iff_not]; omega
                have hm : IntKind.u64.wrap (u * 10) = u * 10 := by rw [IntKind.wrap_u64]; omega
                have hm2 : IntKind.u64.wrap (u * 10 + d) = u * 10 + d := by rw [IntKind.wrap_u64]; omega
                have HN : Hid (rpu 10 ((bsL t).drop (k + 1)) (u * 10 + d) = rpu 10 (bsL t) 0) := hide (by have h := rpu_step (B := 10) (u := u) (l := bsL t) (k := k) (by rw [bsL_len]; exact hlt) (by rw [unhide HDK]; omega) (by rw [unhide HDK]; omega); rw [unhide HDK, unhide HPF] at h; exact h.symm)
                go_wp2_with fail
                refine (unhide HD).mono ?_
                rintro ee x1 ⟨rfl, hx1⟩
                have hx2 := hx1.symm
                subst hx2
                clear hx1
                go_wp2
                go_round
                case rel => exact ⟨k + 1, u * 10 + d, by omega, rfl, by go_num, by omega, by omega, unhide HN⟩
                case measure => simp [intOf]; omega
              · have hov : ¬ u * 10 + d ≤ 9223372036854775808 := by omega
                have hq2 : (9223372036854775808 - d) / 10 < u := by omega
                have HN : Hid (rpuS 10 t = none) := hide (by rw [unhide HR, ← unhide HPF]; exact rpu_stop (by rw [bsL_len]; exact hlt) (by rw [unhide HDK]; omega))
                go_wp2_with fail
                refine (unhide HD).mono ?_
                rintro ee x1 ⟨rfl, hx1⟩
                have hx2 := hx1.symm
                subst hx2
                clear hx1
                go_wp2
                go_ret2
                exact ⟨by rw [unhide HFIN, unhide HN]; rfl, rfl⟩
          · have hke : k = t.size := by omega
            have HN : Hid (rpuS 10 t = some u) := hide (by rw [unhide HR, ← unhide HPF, hke, List.drop_eq_nil_of_le (by rw [bsL_len]; exact Nat.le_refl _)]; rfl)
            go_wp2
            go_ret2
            exact ⟨by rw [unhide HFIN, unhide HN]; rfl, rfl⟩
    · have HFIN : Hid (rnumW t = rpuS 10 t) := hide (by unfold rnumW; rw [if_neg (by omega)])
      have HR : Hid (rpuS 10 t = rpu 10 (bsL t) 0) := hide (by unfold rpuS; rw [if_neg (by omega)])
      go_enter Tryz.func23, Tryz.ntmps23
      go_wp2
      go_loop [5, 7] (fun x i => ∃ (k : Nat) (u : Int), k ≤ t.size ∧ x = .int .u64 u ∧ i = .int .i64 (k : Int) ∧ 0 ≤ u ∧ u ≤ 9223372036854775808 ∧ rpu 10 ((bsL t).drop k) u = rpu 10 (bsL t) 0) (fun _ i => t.size - (intOf i).toNat)
      case atStart => exact ⟨0, 0, Nat.zero_le _, rfl, rfl, by omega, by omega, rfl⟩
      case round =>
        obtain ⟨k, u, hk, rfl, rfl, hu0, hu1, hpf⟩ := hrel
        have HPF := hide hpf
        clear hpf
        by_cases hlt : k < t.size
        · obtain ⟨d, hd⟩ : ∃ d, d = rdg (t[k].toNat : Int) := ⟨_, rfl⟩
          have hdb : 0 ≤ d ∧ d ≤ 99 := by rw [hd]; exact rdg_bounds
          have HD := hide (rdig_any (t[k].toNat : Int) w (by omega) (by have := t[k].toNat_lt; omega))
          rw [← hd] at HD
          have HDK : Hid (rdg ((bsL t)[k]'(by rw [bsL_len]; exact hlt)) = d) := hide (by rw [bsL_get t k hlt, hd])
          clear hd
          by_cases hdB : (10 : Int) ≤ d
          · have HN : Hid (rpuS 10 t = none) := hide (by rw [unhide HR, ← unhide HPF]; exact rpu_stop (by rw [bsL_len]; exact hlt) (by rw [unhide HDK]; omega))
            go_wp2_with fail
            refine (unhide HD).mono ?_
            rintro ee x1 ⟨rfl, hx1⟩
            have hx2 := hx1.symm
            subst hx2
            clear hx1
            go_wp2
            go_ret2
            exact ⟨by rw [unhide HFIN, unhide HN]; rfl, rfl⟩
          · have hdB2 : d < 10 := by omega
            by_cases hq : u ≤ (9223372036854775808 - d) / 10
            · have hov : u * 10 + d ≤ 9223372036854775808 := by omega
              have hq2 : decide ((9223372036854775808 - d) / 10 < u) = false := by rw [decide_eq_false_iff_not]; omega
              have hm : IntKind.u64.wrap (u * 10) = u * 10 := by rw [IntKind.wrap_u64]; omega
              have hm2 : IntKind.u64.wrap (u * 10 + d) = u * 10 + d := by rw [IntKind.wrap_u64]; omega
              have HN : Hid (rpu 10 ((bsL t).drop (k + 1)) (u * 10 + d) = rpu 10 (bsL t) 0) := hide (by have h := rpu_step (B := 10) (u := u) (l := bsL t) (k := k) (by rw [bsL_len]; exact hlt) (by rw [unhide HDK]; omega) (by rw [unhide HDK]; omega); rw [unhide HDK, unhide HPF] at h; exact h.symm)
              go_wp2_with fail
              refine (unhide HD).mono ?_
              rintro ee x1 ⟨rfl, hx1⟩
              have hx2 := hx1.symm
              subst hx2
              clear hx1
              go_wp2
              go_round
              case rel => exact ⟨k + 1, u * 10 + d, by omega, rfl, by go_num, by omega, by omega, unhide HN⟩
              case measure => simp [intOf]; omega
            · have hov : ¬ u * 10 + d ≤ 9223372036854775808 := by omega
              have hq2 : (9223372036854775808 - d) / 10 < u := by omega
              have HN : Hid (rpuS 10 t = none) := hide (by rw [unhide HR, ← unhide HPF]; exact rpu_stop (by rw [bsL_len]; exact hlt) (by rw [unhide HDK]; omega))
              go_wp2_with fail
              refine (unhide HD).mono ?_
              rintro ee x1 ⟨rfl, hx1⟩
              have hx2 := hx1.symm
              subst hx2
              clear hx1
              go_wp2
              go_ret2
              exact ⟨by rw [unhide HFIN, unhide HN]; rfl, rfl⟩
        · have hke : k = t.size := by omega
          have HN : Hid (rpuS 10 t = some u) := hide (by rw [unhide HR, ← unhide HPF, hke, List.drop_eq_nil_of_le (by rw [bsL_len]; exact Nat.le_refl _)]; rfl)
          go_wp2
          go_ret2
          exact ⟨by rw [unhide HFIN, unhide HN]; rfl, rfl⟩

end Go.Proofs.YtlbpeknncakfeaaGreatDoor

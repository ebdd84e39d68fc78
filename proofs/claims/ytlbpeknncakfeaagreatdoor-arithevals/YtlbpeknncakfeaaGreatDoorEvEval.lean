/-
  The document's 'operand': a sign ahead of it, brackets.
  The document's 'operand': a number.
  The document's 'Eval'.
-/
import Derived.Test.YtlbpeknncakfeaaGreatDoorEvOper
import Derived.Test.YtlbpeknncakfeaaGreatDoorEvAny
import Derived.Test.YtlbpeknncakfeaaGreatDoorEvSides
import Derived.Test.YtlbpeknncakfeaaGreatDoorBracket

/- The document's 'operand': a sign ahead of it, brackets. -/
namespace Go.Proofs.YtlbpeknncakfeaaGreatDoor
open Go.RowKit Go.Maps
attribute [local irreducible] findOp findSign

set_option maxRecDepth 20000 in
set_option maxHeartbeats 8000000 in
theorem operand_end (w : World) (n₀ b : Nat) (s : ByteArray) (p d : Nat) (e : Int) (va : Value) (vars sets : Pairs) (sv : Value) (h : Ws w n₀ b s p d false e va vars sets sv) (hm : sk (s.data.toList.drop p) = []) :
    Calls Tryz.prog 118 #[.pointer (some ⟨b, 0, none⟩)] w fun en w' => Out w n₀ b s p d e va vars sets (DR (s.data.toList.drop p)) en w' := by
  have hlen := h.wk.len
  have hple := h.wk.le
  have hdp := h.dle
  have hsk := skp_le hple
  have hdr := drop_skp s p
  obtain ⟨p1, hp1⟩ : ∃ x, x = skp s p := ⟨_, rfl⟩
  have HSK := hide (rskip_any b s p d false e va sv w h.wk)
  rw [← hp1] at HSK hsk hdr
  rw [hm] at hdr
  have HW := hide h
  have hpe : p1 = s.size := by
    have := congrArg List.length hdr
    rw [List.length_drop] at this
    simp at this
    omega
  clear h hp1
  have hne : ((p1 : Int) == (s.size : Int)) = true := by rw [beq_iff_eq]; omega
  have HPE := hide hpe
  clear hpe
  go_enter Tryz.func118, Tryz.ntmps118
  go_wp2_with fail
  refine (unhide HSK).mono ?_
  rintro en w1 ⟨rfl, k1, g1⟩
  have c0 := k1.c0
  have c1 := k1.c1
  have c3 := k1.c3
  have HW1 := hide ((unhide HW).next g1 k1 hsk.2 (by omega))
  have B1 := hide (below_some g1 (Nat.le_of_lt (unhide HW).wk.blk.lt))
  have HSG := hide (rsign_any p1 b s p1 d false e va sv w1 k1)
  clear k1 g1
  go_wp2_with fail
  refine (unhide HSG).mono ?_
  rintro en w2 ⟨rfl, hw2⟩
  have hw3 := hw2.symm
  subst hw3
  clear hw2
  go_wp2_with fail
  go_quiet (fail)
  obtain ⟨wq, hwq⟩ : ∃ x, x = w1.drewN nq := ⟨_, rfl⟩
  have hgq : w1.grownBy wq none := by rw [hwq]; exact grown_drewN w1 nq
  rw [← hwq]
  have HQ := hide ((unhide HW1).next (grown_but hgq _) ((unhide HW1).wk.kept hgq) (Nat.le_refl _) (unhide HW1).dle)
  have BQ := hide ((unhide B1).trans (below_some (grown_but hgq (some b)) (Nat.le_of_lt (unhide HW1).wk.blk.lt)))
  clear hwq hgq c0 c1 c3 HW1 B1 HSG HSK
  have c3 := (unhide HQ).wk.c3
  have z3 := (unhide HQ).wk.blk.frozen 3
  go_wp2
  go_ret
  exact out_bad ((unhide BQ).trans (below_some (grown_setCell wq ⟨b, 3, none⟩ _) (Nat.le_of_lt (unhide HQ).wk.blk.lt))) hsk.2 ((unhide HQ).next (grown_setCell wq ⟨b, 3, none⟩ _) (unhide HQ).wk.bad (Nat.le_refl _) (unhide HQ).dle) (DR_end hm) 0 ⟨by decide, by decide⟩

set_option maxRecDepth 20000 in
set_option maxHeartbeats 8000000 in
theorem operand_plus (w : World) (n₀ b : Nat) (s : ByteArray) (p d : Nat) (e : Int) (va : Value) (vars sets : Pairs) (sv : Value) (h : Ws w n₀ b s p d false e va vars sets sv) (r : List UInt8) (hm : sk (s.data.toList.drop p) = 43 :: r) (hf : findSign [43] = some 81) (hR2 : Meth 118 DR (s.size - (skp s p + 1))) :
    Calls Tryz.prog 118 #[.pointer (some ⟨b, 0, none⟩)] w fun en w' => Out w n₀ b s p d e va vars sets (DR (s.data.toList.drop p)) en w' := by
  have HDR := hide (DR_sign hm hf)
  have HR := hide hR2
  clear hR2 hf
  have hlen := h.wk.len
  have hple := h.wk.le
  have hdp := h.dle
  have hsk := skp_le hple
  have hdr := drop_skp s p
  obtain ⟨p1, hp1⟩ : ∃ x, x = skp s p := ⟨_, rfl⟩
  have HSK := hide (rskip_any b s p d false e va sv w h.wk)
  rw [← hp1] at HSK HR hsk hdr
  rw [hm] at hdr
  have HW := hide h
  clear h hp1
  obtain ⟨hlt, hd2⟩ := drop_step hdr
  have hby : sbb s p1 = 43 := by rw [byteA_at, hdr]; rfl
  go_enter Tryz.func118, Tryz.ntmps118
  go_wp2_with fail
  refine (unhide HSK).mono ?_
  rintro en w1 ⟨rfl, k1, g1⟩
  have c0 := k1.c0
  have c1 := k1.c1
  have c3 := k1.c3
  have HW1 := hide ((unhide HW).next g1 k1 hsk.2 (by omega))
  have B1 := hide (below_some g1 (Nat.le_of_lt (unhide HW).wk.blk.lt))
  have HSG := hide (rsign_any p1 b s p1 d false e va sv w1 k1)
  rw [hby] at HSG
  clear k1 g1
  have hne : ((p1 : Int) == (s.size : Int)) = false := by rw [beq_eq_false_iff_ne]; omega
  go_wp2_with fail
  refine (unhide HSG).mono ?_
  rintro en w2 ⟨rfl, hw2⟩
  have hw3 := hw2.symm
  subst hw3
  clear hw2
  go_wp2_with fail
  go_quiet (fail)
  obtain ⟨wq, hwq⟩ : ∃ x, x = w1.drewN nq := ⟨_, rfl⟩
  have hgq : w1.grownBy wq none := by rw [hwq]; exact grown_drewN w1 nq
  rw [← hwq]
  have HQ := hide ((unhide HW1).next (grown_but hgq _) ((unhide HW1).wk.kept hgq) (Nat.le_refl _) (unhide HW1).dle)
  have BQ := hide ((unhide B1).trans (below_some (grown_but hgq (some b)) (Nat.le_of_lt (unhide HW1).wk.blk.lt)))
  clear hwq hgq c0 c1 c3 hne HW1 B1 HSG HSK
  have c0 := (unhide HQ).wk.c0
  have c1 := (unhide HQ).wk.c1
  have c3 := (unhide HQ).wk.c3
  have z1 := (unhide HQ).wk.blk.frozen 1
  have z3 := (unhide HQ).wk.blk.frozen 3
  obtain ⟨q, hq⟩ : ∃ x, x = p1 + 1 := ⟨_, rfl⟩
  have hwq : IntKind.i64.wrap ((p1 : Int) + 1) = (q : Int) := by rw [IntKind.wrap_i64]; omega
  rw [← hq] at hd2
  have hq2 : q ≤ s.size ∧ p < q ∧ d < q ∧ p1 ≤ q ∧ s.size ≤ q + (s.size - q) := by omega
  have HW2 : Hid (Ws (wq.setCell ⟨b, 1, none⟩ (.int .i64 (q : Int))) n₀ b s q d false e va vars sets sv) := hide ((unhide HQ).next (grown_setCell wq ⟨b, 1, none⟩ _) ((unhide HQ).wk.to q hq2.1) (by omega) (by omega))
  have B2 := hide ((unhide BQ).trans (below_some (grown_setCell wq ⟨b, 1, none⟩ (.int .i64 (q : Int))) (Nat.le_of_lt (unhide HQ).wk.blk.lt)))
  rw [← hq] at HR
  clear hq
  go_wp2_with fail
  refine (unhide HR _ n₀ b s q d e va vars sets sv (unhide HW2) hq2.2.2.2.2).mono ?_
  rintro en w3 ⟨b3, n3, rfl, hn3, p3, e3, t3, sv3, hp3, hr3⟩
  rw [hd2] at hr3
  have HR3 := hide hr3
  have B3 := hide ((unhide B2).trans b3)
  have HN3 := hide hn3
  clear hr3 b3 hn3 c0 c1 c3 z1 z3
  go_wp2
  go_ret
  refine ⟨unhide B3, signI 81 n3, ret_int (rfl), i64_sign (unhide HN3) 81, p3, e3, t3, sv3, by omega, ?_⟩
  rw [unhide HDR]
  have hr3 := unhide HR3
  rcases hq3 : DR r with _ | ⟨x, rest⟩
  · rw [hq3] at hr3
    exact hr3
  · rw [hq3] at hr3
    exact ⟨hr3.1, hr3.2.1, hr3.2.2.sign 81⟩

set_option maxRecDepth 20000 in
set_option maxHeartbeats 8000000 in
theorem operand_minus (w : World) (n₀ b : Nat) (s : ByteArray) (p d : Nat) (e : Int) (va : Value) (vars sets : Pairs) (sv : Value) (h : Ws w n₀ b s p d false e va vars sets sv) (r : List UInt8) (hm : sk (s.data.toList.drop p) = 45 :: r) (hf : findSign [45] = some 82) (hR2 : Meth 118 DR (s.size - (skp s p + 1))) :
    Calls Tryz.prog 118 #[.pointer (some ⟨b, 0, none⟩)] w fun en w' => Out w n₀ b s p d e va vars sets (DR (s.data.toList.drop p)) en w' := by
  have HDR := hide (DR_sign hm hf)
  have HR := hide hR2
  clear hR2 hf
  have hlen := h.wk.len
  have hple := h.wk.le
  have hdp := h.dle
  have hsk := skp_le hple
  have hdr := drop_skp s p
  obtain ⟨p1, hp1⟩ : ∃ x, x = skp s p := ⟨_, rfl⟩
  have HSK := hide (rskip_any b s p d false e va sv w h.wk)
  rw [← hp1] at HSK HR hsk hdr
  rw [hm] at hdr
  have HW := hide h
  clear h hp1
  obtain ⟨hlt, hd2⟩ := drop_step hdr
  have hby : sbb s p1 = 45 := by rw [byteA_at, hdr]; rfl
  go_enter Tryz.func118, Tryz.ntmps118
  go_wp2_with fail
  refine (unhide HSK).mono ?_
  rintro en w1 ⟨rfl, k1, g1⟩
  have c0 := k1.c0
  have c1 := k1.c1
  have c3 := k1.c3
  have HW1 := hide ((unhide HW).next g1 k1 hsk.2 (by omega))
  have B1 := hide (below_some g1 (Nat.le_of_lt (unhide HW).wk.blk.lt))
  have HSG := hide (rsign_any p1 b s p1 d false e va sv w1 k1)
  rw [hby] at HSG
  clear k1 g1
  have hne : ((p1 : Int) == (s.size : Int)) = false := by rw [beq_eq_false_iff_ne]; omega
  go_wp2_with fail
  refine (unhide HSG).mono ?_
  rintro en w2 ⟨rfl, hw2⟩
  have hw3 := hw2.symm
  subst hw3
  clear hw2
  go_wp2_with fail
  go_quiet (fail)
  obtain ⟨wq, hwq⟩ : ∃ x, x = w1.drewN nq := ⟨_, rfl⟩
  have hgq : w1.grownBy wq none := by rw [hwq]; exact grown_drewN w1 nq
  rw [← hwq]
  have HQ := hide ((unhide HW1).next (grown_but hgq _) ((unhide HW1).wk.kept hgq) (Nat.le_refl _) (unhide HW1).dle)
  have BQ := hide ((unhide B1).trans (below_some (grown_but hgq (some b)) (Nat.le_of_lt (unhide HW1).wk.blk.lt)))
  clear hwq hgq c0 c1 c3 hne HW1 B1 HSG HSK
  have c0 := (unhide HQ).wk.c0
  have c1 := (unhide HQ).wk.c1
  have c3 := (unhide HQ).wk.c3
  have z1 := (unhide HQ).wk.blk.frozen 1
  have z3 := (unhide HQ).wk.blk.frozen 3
  obtain ⟨q, hq⟩ : ∃ x, x = p1 + 1 := ⟨_, rfl⟩
  have hwq : IntKind.i64.wrap ((p1 : Int) + 1) = (q : Int) := by rw [IntKind.wrap_i64]; omega
  rw [← hq] at hd2
  have hq2 : q ≤ s.size ∧ p < q ∧ d < q ∧ p1 ≤ q ∧ s.size ≤ q + (s.size - q) := by omega
  have HW2 : Hid (Ws (wq.setCell ⟨b, 1, none⟩ (.int .i64 (q : Int))) n₀ b s q d false e va vars sets sv) := hide ((unhide HQ).next (grown_setCell wq ⟨b, 1, none⟩ _) ((unhide HQ).wk.to q hq2.1) (by omega) (by omega))
  have B2 := hide ((unhide BQ).trans (below_some (grown_setCell wq ⟨b, 1, none⟩ (.int .i64 (q : Int))) (Nat.le_of_lt (unhide HQ).wk.blk.lt)))
  rw [← hq] at HR
  clear hq
  go_wp2_with fail
  refine (unhide HR _ n₀ b s q d e va vars sets sv (unhide HW2) hq2.2.2.2.2).mono ?_
  rintro en w3 ⟨b3, n3, rfl, hn3, p3, e3, t3, sv3, hp3, hr3⟩
  rw [hd2] at hr3
  have HR3 := hide hr3
  have B3 := hide ((unhide B2).trans b3)
  have HN3 := hide hn3
  clear hr3 b3 hn3 c0 c1 c3 z1 z3
  go_wp2
  go_ret
  refine ⟨unhide B3, signI 82 n3, ret_int (rfl), i64_sign (unhide HN3) 82, p3, e3, t3, sv3, by omega, ?_⟩
  rw [unhide HDR]
  have hr3 := unhide HR3
  rcases hq3 : DR r with _ | ⟨x, rest⟩
  · rw [hq3] at hr3
    exact hr3
  · rw [hq3] at hr3
    exact ⟨hr3.1, hr3.2.1, hr3.2.2.sign 82⟩

set_option maxRecDepth 20000 in
set_option maxHeartbeats 8000000 in
theorem operand_not (w : World) (n₀ b : Nat) (s : ByteArray) (p d : Nat) (e : Int) (va : Value) (vars sets : Pairs) (sv : Value) (h : Ws w n₀ b s p d false e va vars sets sv) (r : List UInt8) (hm : sk (s.data.toList.drop p) = 33 :: r) (hf : findSign [33] = some 83) (hR2 : Meth 118 DR (s.size - (skp s p + 1))) :
    Calls Tryz.prog 118 #[.pointer (some ⟨b, 0, none⟩)] w fun en w' => Out w n₀ b s p d e va vars sets (DR (s.data.toList.drop p)) en w' := by
  have HDR := hide (DR_sign hm hf)
  have HR := hide hR2
  clear hR2 hf
  have hlen := h.wk.len
  have hple := h.wk.le
  have hdp := h.dle
  have hsk := skp_le hple
  have hdr := drop_skp s p
  obtain ⟨p1, hp1⟩ : ∃ x, x = skp s p := ⟨_, rfl⟩
  have HSK := hide (rskip_any b s p d false e va sv w h.wk)
  rw [← hp1] at HSK HR hsk hdr
  rw [hm] at hdr
  have HW := hide h
  clear h hp1
  obtain ⟨hlt, hd2⟩ := drop_step hdr
  have hby : sbb s p1 = 33 := by rw [byteA_at, hdr]; rfl
  go_enter Tryz.func118, Tryz.ntmps118
  go_wp2_with fail
  refine (unhide HSK).mono ?_
  rintro en w1 ⟨rfl, k1, g1⟩
  have c0 := k1.c0
  have c1 := k1.c1
  have c3 := k1.c3
  have HW1 := hide ((unhide HW).next g1 k1 hsk.2 (by omega))
  have B1 := hide (below_some g1 (Nat.le_of_lt (unhide HW).wk.blk.lt))
  have HSG := hide (rsign_any p1 b s p1 d false e va sv w1 k1)
  rw [hby] at HSG
  clear k1 g1
  have hne : ((p1 : Int) == (s.size : Int)) = false := by rw [beq_eq_false_iff_ne]; omega
  go_wp2_with fail
  refine (unhide HSG).mono ?_
  rintro en w2 ⟨rfl, hw2⟩
  have hw3 := hw2.symm
  subst hw3
  clear hw2
  go_wp2_with fail
  go_quiet (fail)
  obtain ⟨wq, hwq⟩ : ∃ x, x = w1.drewN nq := ⟨_, rfl⟩
  have hgq : w1.grownBy wq none := by rw [hwq]; exact grown_drewN w1 nq
  rw [← hwq]
  have HQ := hide ((unhide HW1).next (grown_but hgq _) ((unhide HW1).wk.kept hgq) (Nat.le_refl _) (unhide HW1).dle)
  have BQ := hide ((unhide B1).trans (below_some (grown_but hgq (some b)) (Nat.le_of_lt (unhide HW1).wk.blk.lt)))
  clear hwq hgq c0 c1 c3 hne HW1 B1 HSG HSK
  have c0 := (unhide HQ).wk.c0
  have c1 := (unhide HQ).wk.c1
  have c3 := (unhide HQ).wk.c3
  have z1 := (unhide HQ).wk.blk.frozen 1
  have z3 := (unhide HQ).wk.blk.frozen 3
  obtain ⟨q, hq⟩ : ∃ x, x = p1 + 1 := ⟨_, rfl⟩
  have hwq : IntKind.i64.wrap ((p1 : Int) + 1) = (q : Int) := by rw [IntKind.wrap_i64]; omega
  rw [← hq] at hd2
  have hq2 : q ≤ s.size ∧ p < q ∧ d < q ∧ p1 ≤ q ∧ s.size ≤ q + (s.size - q) := by omega
  have HW2 : Hid (Ws (wq.setCell ⟨b, 1, none⟩ (.int .i64 (q : Int))) n₀ b s q d false e va vars sets sv) := hide ((unhide HQ).next (grown_setCell wq ⟨b, 1, none⟩ _) ((unhide HQ).wk.to q hq2.1) (by omega) (by omega))
  have B2 := hide ((unhide BQ).trans (below_some (grown_setCell wq ⟨b, 1, none⟩ (.int .i64 (q : Int))) (Nat.le_of_lt (unhide HQ).wk.blk.lt)))
  rw [← hq] at HR
  clear hq
  go_wp2_with fail
  refine (unhide HR _ n₀ b s q d e va vars sets sv (unhide HW2) hq2.2.2.2.2).mono ?_
  rintro en w3 ⟨b3, n3, rfl, hn3, p3, e3, t3, sv3, hp3, hr3⟩
  rw [hd2] at hr3
  have HR3 := hide hr3
  have B3 := hide ((unhide B2).trans b3)
  have HN3 := hide hn3
  clear hr3 b3 hn3 c0 c1 c3 z1 z3
  go_wp2_with fail
  refine (rtruth_any _ _).mono ?_
  rintro en w4 ⟨rfl, hw4⟩
  have hw5 := hw4.symm
  subst hw5
  clear hw4
  go_wp2
  go_ret
  refine ⟨unhide B3, signI 83 n3, ret_int (rfl), i64_sign (unhide HN3) 83, p3, e3, t3, sv3, by omega, ?_⟩
  rw [unhide HDR]
  have hr3 := unhide HR3
  rcases hq3 : DR r with _ | ⟨x, rest⟩
  · rw [hq3] at hr3
    exact hr3
  · rw [hq3] at hr3
    exact ⟨hr3.1, hr3.2.1, hr3.2.2.sign 83⟩

set_option maxRecDepth 20000 in
set_option maxHeartbeats 8000000 in
theorem operand_inv (w : World) (n₀ b : Nat) (s : ByteArray) (p d : Nat) (e : Int) (va : Value) (vars sets : Pairs) (sv : Value) (h : Ws w n₀ b s p d false e va vars sets sv) (r : List UInt8) (hm : sk (s.data.toList.drop p) = 126 :: r) (hf : findSign [126] = some 84) (hR2 : Meth 118 DR (s.size - (skp s p + 1))) :
    Calls Tryz.prog 118 #[.pointer (some ⟨b, 0, none⟩)] w fun en w' => Out w n₀ b s p d e va vars sets (DR (s.data.toList.drop p)) en w' := by
  have HDR := hide (DR_sign hm hf)
  have HR := hide hR2
  clear hR2 hf
  have hlen := h.wk.len
  have hple := h.wk.le
  have hdp := h.dle
  have hsk := skp_le hple
  have hdr := drop_skp s p
  obtain ⟨p1, hp1⟩ : ∃ x, x = skp s p := ⟨_, rfl⟩
  have HSK := hide (rskip_any b s p d false e va sv w h.wk)
  rw [← hp1] at HSK HR hsk hdr
  rw [hm] at hdr
  have HW := hide h
  clear h hp1
  obtain ⟨hlt, hd2⟩ := drop_step hdr
  have hby : sbb s p1 = 126 := by rw [byteA_at, hdr]; rfl
  go_enter Tryz.func118, Tryz.ntmps118
  go_wp2_with fail
  refine (unhide HSK).mono ?_
  rintro en w1 ⟨rfl, k1, g1⟩
  have c0 := k1.c0
  have c1 := k1.c1
  have c3 := k1.c3
  have HW1 := hide ((unhide HW).next g1 k1 hsk.2 (by omega))
  have B1 := hide (below_some g1 (Nat.le_of_lt (unhide HW).wk.blk.lt))
  have HSG := hide (rsign_any p1 b s p1 d false e va sv w1 k1)
  rw [hby] at HSG
  clear k1 g1
  have hne : ((p1 : Int) == (s.size : Int)) = false := by rw [beq_eq_false_iff_ne]; omega
  go_wp2_with fail
  refine (unhide HSG).mono ?_
  rintro en w2 ⟨rfl, hw2⟩
  have hw3 := hw2.symm
  subst hw3
  clear hw2
  go_wp2_with fail
  go_quiet (fail)
  obtain ⟨wq, hwq⟩ : ∃ x, x = w1.drewN nq := ⟨_, rfl⟩
  have hgq : w1.grownBy wq none := by rw [hwq]; exact grown_drewN w1 nq
  rw [← hwq]
  have HQ := hide ((unhide HW1).next (grown_but hgq _) ((unhide HW1).wk.kept hgq) (Nat.le_refl _) (unhide HW1).dle)
  have BQ := hide ((unhide B1).trans (below_some (grown_but hgq (some b)) (Nat.le_of_lt (unhide HW1).wk.blk.lt)))
  clear hwq hgq c0 c1 c3 hne HW1 B1 HSG HSK
  have c0 := (unhide HQ).wk.c0
  have c1 := (unhide HQ).wk.c1
  have c3 := (unhide HQ).wk.c3
  have z1 := (unhide HQ).wk.blk.frozen 1
  have z3 := (unhide HQ).wk.blk.frozen 3
  obtain ⟨q, hq⟩ : ∃ x, x = p1 + 1 := ⟨_, rfl⟩
  have hwq : IntKind.i64.wrap ((p1 : Int) + 1) = (q : Int) := by rw [IntKind.wrap_i64]; omega
  rw [← hq] at hd2
  have hq2 : q ≤ s.size ∧ p < q ∧ d < q ∧ p1 ≤ q ∧ s.size ≤ q + (s.size - q) := by omega
  have HW2 : Hid (Ws (wq.setCell ⟨b, 1, none⟩ (.int .i64 (q : Int))) n₀ b s q d false e va vars sets sv) := hide ((unhide HQ).next (grown_setCell wq ⟨b, 1, none⟩ _) ((unhide HQ).wk.to q hq2.1) (by omega) (by omega))
  have B2 := hide ((unhide BQ).trans (below_some (grown_setCell wq ⟨b, 1, none⟩ (.int .i64 (q : Int))) (Nat.le_of_lt (unhide HQ).wk.blk.lt)))
  rw [← hq] at HR
  clear hq
  go_wp2_with fail
  refine (unhide HR _ n₀ b s q d e va vars sets sv (unhide HW2) hq2.2.2.2.2).mono ?_
  rintro en w3 ⟨b3, n3, rfl, hn3, p3, e3, t3, sv3, hp3, hr3⟩
  rw [hd2] at hr3
  have HR3 := hide hr3
  have B3 := hide ((unhide B2).trans b3)
  have HN3 := hide hn3
  clear hr3 b3 hn3 c0 c1 c3 z1 z3
  go_wp2
  go_ret
  have hv84 : wrap64 (wrap64 (-n3) - 1) = signI 84 n3 := by
    show _ = bits BinOp.xor IntKind.i64 (-1) n3
    rw [inv_eq (unhide HN3)]
    unfold wrap64
    have := (unhide HN3).1
    have := (unhide HN3).2
    omega
  refine ⟨unhide B3, signI 84 n3, ret_int (hv84), i64_sign (unhide HN3) 84, p3, e3, t3, sv3, by omega, ?_⟩
  rw [unhide HDR]
  have hr3 := unhide HR3
  rcases hq3 : DR r with _ | ⟨x, rest⟩
  · rw [hq3] at hr3
    exact hr3
  · rw [hq3] at hr3
    exact ⟨hr3.1, hr3.2.1, hr3.2.2.sign 84⟩

set_option maxRecDepth 20000 in
set_option maxHeartbeats 8000000 in
theorem operand_paren (w : World) (n₀ b : Nat) (s : ByteArray) (p d : Nat) (e : Int) (va : Value) (vars sets : Pairs) (sv : Value) (h : Ws w n₀ b s p d false e va vars sets sv) (r : List UInt8) (hm : sk (s.data.toList.drop p) = 40 :: r) (hf : findSign [40] = none) (hE : Meth 27 DE (s.size - (skp s p + 1))) :
    Calls Tryz.prog 118 #[.pointer (some ⟨b, 0, none⟩)] w fun en w' => Out w n₀ b s p d e va vars sets (DR (s.data.toList.drop p)) en w' := by
  have hdrq := DR_paren hm hf
  have HE := hide hE
  clear hE hf
  have hlen := h.wk.len
  have hple := h.wk.le
  have hdp := h.dle
  have hsk := skp_le hple
  have hdr := drop_skp s p
  obtain ⟨p1, hp1⟩ : ∃ x, x = skp s p := ⟨_, rfl⟩
  have HSK := hide (rskip_any b s p d false e va sv w h.wk)
  rw [← hp1] at HSK HE hsk hdr
  rw [hm] at hdr
  have HW := hide h
  clear h hp1
  obtain ⟨hlt, hd2⟩ := drop_step hdr
  have hby : sbb s p1 = 40 := by rw [byteA_at, hdr]; rfl
  go_enter Tryz.func118, Tryz.ntmps118
  go_wp2_with fail
  refine (unhide HSK).mono ?_
  rintro en w1 ⟨rfl, k1, g1⟩
  have c0 := k1.c0
  have c1 := k1.c1
  have c3 := k1.c3
  have HW1 := hide ((unhide HW).next g1 k1 hsk.2 (by omega))
  have B1 := hide (below_some g1 (Nat.le_of_lt (unhide HW).wk.blk.lt))
  have HSG := hide (rsign_any p1 b s p1 d false e va sv w1 k1)
  rw [hby] at HSG
  clear k1 g1
  have hne : ((p1 : Int) == (s.size : Int)) = false := by rw [beq_eq_false_iff_ne]; omega
  go_wp2_with fail
  refine (unhide HSG).mono ?_
  rintro en w2 ⟨rfl, hw2⟩
  have hw3 := hw2.symm
  subst hw3
  clear hw2
  go_wp2_with fail
  go_quiet (fail)
  obtain ⟨wq, hwq⟩ : ∃ x, x = w1.drewN nq := ⟨_, rfl⟩
  have hgq : w1.grownBy wq none := by rw [hwq]; exact grown_drewN w1 nq
  rw [← hwq]
  have HQ := hide ((unhide HW1).next (grown_but hgq _) ((unhide HW1).wk.kept hgq) (Nat.le_refl _) (unhide HW1).dle)
  have BQ := hide ((unhide B1).trans (below_some (grown_but hgq (some b)) (Nat.le_of_lt (unhide HW1).wk.blk.lt)))
  clear hwq hgq c0 c1 c3 hne HW1 B1 HSG HSK
  have c0 := (unhide HQ).wk.c0
  have c1 := (unhide HQ).wk.c1
  have c3 := (unhide HQ).wk.c3
  have z1 := (unhide HQ).wk.blk.frozen 1
  have z3 := (unhide HQ).wk.blk.frozen 3
  obtain ⟨q, hq⟩ : ∃ x, x = p1 + 1 := ⟨_, rfl⟩
  have hwq : IntKind.i64.wrap ((p1 : Int) + 1) = (q : Int) := by rw [IntKind.wrap_i64]; omega
  rw [← hq] at hd2
  have hq2 : q ≤ s.size ∧ p < q ∧ d < q ∧ p1 ≤ q ∧ s.size ≤ q + (s.size - q) := by omega
  have HW2 : Hid (Ws (wq.setCell ⟨b, 1, none⟩ (.int .i64 (q : Int))) n₀ b s q d false e va vars sets sv) := hide ((unhide HQ).next (grown_setCell wq ⟨b, 1, none⟩ _) ((unhide HQ).wk.to q hq2.1) (by omega) (by omega))
  have B2 := hide ((unhide BQ).trans (below_some (grown_setCell wq ⟨b, 1, none⟩ (.int .i64 (q : Int))) (Nat.le_of_lt (unhide HQ).wk.blk.lt)))
  rw [← hq] at HE
  clear hq
  go_wp2_with fail
  refine (unhide HE _ n₀ b s q d e va vars sets sv (unhide HW2) hq2.2.2.2.2).mono ?_
  rintro en w3 ⟨b3, n3, rfl, hn3, p3, e3, t3, sv3, hp3, hr3⟩
  rw [hd2] at hr3
  have B3 := hide ((unhide B2).trans b3)
  have HN3 := hide hn3
  clear b3 hn3 c0 c1 c3 z1 z3
  rcases hq3 : DE r with _ | ⟨x, r1⟩
  · rw [hq3] at hr3 hdrq
    have HR3 := hide hr3
    have HDR := hide hdrq
    clear hr3 hdrq hq3
    go_wp2_with fail
    refine (rskip_any b s p3 d true e3 va sv3 _ (unhide HR3).wk).mono ?_
    rintro en w5 ⟨rfl, k5, g5⟩
    have x3 := k5.c3
    have y3 := k5.blk.frozen 3
    have HW5 := hide ((unhide HR3).next g5 k5 (skp_le (unhide HR3).wk.le).2 (by have := (skp_le (unhide HR3).wk.le).2; have := (unhide HR3).dle; omega))
    have B5 := hide ((unhide B3).trans (below_some g5 (Nat.le_of_lt (unhide HR3).wk.blk.lt)))
    have hs5 := (skp_le (unhide HR3).wk.le).2
    clear k5 g5
    go_wp2
    go_ret
    exact out_bad ((unhide B5).trans (below_some (grown_setCell w5 ⟨b, 3, none⟩ _) (Nat.le_of_lt (unhide HW5).wk.blk.lt))) (Nat.le_trans (by omega) hs5) ((unhide HW5).next (grown_setCell w5 ⟨b, 3, none⟩ _) (unhide HW5).wk.bad (Nat.le_refl _) (unhide HW5).dle) (unhide HDR) 0 ⟨by decide, by decide⟩
  · rw [hq3] at hr3 hdrq
    obtain ⟨hr3, hrest3, hev3⟩ := hr3
    have HR4 := hide hr3
    simp only [] at hdrq
    have HEV3 := hide hev3
    have hd4 := (unhide HR4).dle
    have hsk4 := skp_le (unhide HR4).wk.le
    have hdr4 := drop_skp s p3
    rw [hrest3] at hdr4
    obtain ⟨p4, hp4⟩ : ∃ x, x = skp s p3 := ⟨_, rfl⟩
    have HSK4 := hide (rskip_any b s p3 d false e3 va sv3 _ (unhide HR4).wk)
    rw [← hp4] at HSK4 hsk4 hdr4
    clear hr3 hq3 hrest3 hev3 hp4
    go_wp2_with fail
    refine (unhide HSK4).mono ?_
    rintro en w5 ⟨rfl, k5, g5⟩
    have x1 := k5.c1
    have x3 := k5.c3
    have y1 := k5.blk.frozen 1
    have y3 := k5.blk.frozen 3
    have HW5 := hide ((unhide HR4).next g5 k5 hsk4.2 (by omega))
    have B5 := hide ((unhide B3).trans (below_some g5 (Nat.le_of_lt (unhide HR4).wk.blk.lt)))
    have HSG5 := hide (rsign_any p4 b s p4 d false e3 va sv3 w5 k5)
    rw [byteA_at, hdr4] at HSG5
    clear k5 g5 HSK4
    rcases tk_cases 41 (by decide) r1 with ⟨r3, hm4, ht, hby4⟩ | ⟨ht, hby4⟩
    · rw [hby4] at HSG5
      rw [ht] at hdrq
      rw [hm4] at hdr4
      obtain ⟨hlt4, hd5⟩ := drop_step hdr4
      obtain ⟨q4, hq4⟩ : ∃ x, x = p4 + 1 := ⟨_, rfl⟩
      rw [← hq4] at hd5
      have hwq4 : IntKind.i64.wrap ((p4 : Int) + 1) = (q4 : Int) := by rw [IntKind.wrap_i64]; omega
      have hq5 : q4 ≤ s.size ∧ p < q4 ∧ d < q4 ∧ p4 ≤ q4 := by omega
      have HDR := hide hdrq
      clear hm4 ht hby4 hq4 hdrq
      go_wp2_with fail
      refine (unhide HSG5).mono ?_
      rintro en w6 ⟨rfl, hw6⟩
      have hw7 := hw6.symm
      subst hw7
      clear hw6
      go_wp2
      go_ret
      exact out_ok ((unhide B5).trans (below_some (grown_setCell w5 ⟨b, 1, none⟩ _) (Nat.le_of_lt (unhide HW5).wk.blk.lt))) (by omega) ((unhide HW5).next (grown_setCell w5 ⟨b, 1, none⟩ _) ((unhide HW5).wk.to q4 hq5.1) (by omega) (by omega)) hd5 (unhide HDR) (unhide HN3) (unhide HEV3)
    · have hby' : (byteA (sk r1) 0 == 41) = false := by rw [beq_eq_false_iff_ne]; exact hby4
      rw [ht] at hdrq
      have HDR := hide hdrq
      clear ht hby4 hdrq
      go_wp2_with fail
      refine (unhide HSG5).mono ?_
      rintro en w6 ⟨rfl, hw6⟩
      have hw7 := hw6.symm
      subst hw7
      clear hw6
      go_wp2
      go_ret
      exact out_bad ((unhide B5).trans (below_some (grown_setCell w5 ⟨b, 3, none⟩ _) (Nat.le_of_lt (unhide HW5).wk.blk.lt))) (by omega) ((unhide HW5).next (grown_setCell w5 ⟨b, 3, none⟩ _) (unhide HW5).wk.bad (Nat.le_refl _) (unhide HW5).dle) (unhide HDR) 0 ⟨by decide, by decide⟩

end Go.Proofs.YtlbpeknncakfeaaGreatDoor

/- The document's 'operand': a number. -/
namespace Go.Proofs.YtlbpeknncakfeaaGreatDoor
open Go.RowKit Go.Maps
attribute [local irreducible] findOp findSign

set_option maxRecDepth 20000 in
set_option maxHeartbeats 16000000 in
theorem operand_num (w : World) (n₀ b : Nat) (s : ByteArray) (p d : Nat) (e : Int) (va : Value) (vars sets : Pairs) (sv : Value) (h : Ws w n₀ b s p d false e va vars sets sv) (c : UInt8) (r : List UInt8) (hm : sk (s.data.toList.drop p) = c :: r) (ha : alpB (c.toNat : Int) = false) (hf : findSign [c] = none) (h40 : ¬ c = 40) :
    Calls Tryz.prog 118 #[.pointer (some ⟨b, 0, none⟩)] w fun en w' => Out w n₀ b s p d e va vars sets (DR (s.data.toList.drop p)) en w' := by
  obtain ⟨s1, s2, s3, s4⟩ := sign_none hf
  have s5 := not40 h40
  have HDR := hide ((DR_word hm hf h40).trans (word_num ha))
  have hkl := spanN_le namB (c :: r)
  have HSP := hide (span_at (c :: r))
  obtain ⟨K, hK⟩ : ∃ x, x = spanN namB (c :: r) := ⟨_, rfl⟩
  rw [← hK] at hkl HSP
  clear hf h40
  have hlen := h.wk.len
  have hple := h.wk.le
  have hdp := h.dle
  have hsk := skp_le hple
  have hdr := drop_skp s p
  obtain ⟨p1, hp1⟩ : ∃ x, x = skp s p := ⟨_, rfl⟩
  have HSK := hide (rskip_any b s p d false e va sv w h.wk)
  rw [← hp1] at HSK hsk hdr
  rw [hm] at hdr
  have HW := hide h
  clear h hp1
  obtain ⟨hlt, hd2⟩ := drop_step hdr
  have hby : sbb s p1 = (c.toNat : Int) := by rw [byteA_at, hdr]; rfl
  go_enter Tryz.func118, Tryz.ntmps118
  go_wp2_with fail
  refine (unhide HSK).mono ?_
  rintro en w1 ⟨rfl, k1, g1⟩
  have c0 := k1.c0
  have c1 := k1.c1
  have c3 := k1.c3
  have HW1 := hide ((unhide HW).next g1 k1 hsk.2 (by omega))
  have B1 := hide (below_some g1 (Nat.le_of_lt (unhide HW).wk.blk.lt))
  have HSG := hide (rsign_any p1 b s p1 d false e va sv w1 k1)
  rw [hby] at HSG
  clear k1 g1
  have hne : ((p1 : Int) == (s.size : Int)) = false := by rw [beq_eq_false_iff_ne]; omega
  go_wp2_with fail
  refine (unhide HSG).mono ?_
  rintro en w2 ⟨rfl, hw2⟩
  have hw3 := hw2.symm
  subst hw3
  clear hw2
  go_wp2_with fail
  go_quiet (fail)
  obtain ⟨wq, hwq⟩ : ∃ x, x = w1.drewN nq := ⟨_, rfl⟩
  have hgq : w1.grownBy wq none := by rw [hwq]; exact grown_drewN w1 nq
  rw [← hwq]
  have HQ := hide ((unhide HW1).next (grown_but hgq _) ((unhide HW1).wk.kept hgq) (Nat.le_refl _) (unhide HW1).dle)
  have BQ := hide ((unhide B1).trans (below_some (grown_but hgq (some b)) (Nat.le_of_lt (unhide HW1).wk.blk.lt)))
  clear hwq hgq c0 c1 c3 hne HW1 B1 HSG HSK
  have c0 := (unhide HQ).wk.c0
  have c1 := (unhide HQ).wk.c1
  have c3 := (unhide HQ).wk.c3
  have z1 := (unhide HQ).wk.blk.frozen 1
  have z3 := (unhide HQ).wk.blk.frozen 3
  have hln : (c :: r).length = s.size - p1 := by
    have := congrArg List.length hdr
    rw [List.length_drop] at this
    simp at this ⊢
    omega
  have hbt : ∀ j, sbb s (p1 + j) = byteA (c :: r) j := fun j => by rw [sbb_drop, hdr]
  have HBT := hide hbt
  have HDD := hide hdr
  have HKE := hide hK
  have HA := hide ha
  rw [hln] at hkl
  clear hK hln hdr hd2 hbt hm
  go_wp2_with fail
  refine (ralpha_any _ _).mono ?_
  rintro en w3 ⟨rfl, hw3⟩
  have hw4 := hw3.symm
  subst hw4
  clear hw3
  rw [ha]
  clear ha s1 s2 s3 s4 s5 z1 z3
  go_wp2_with fail
  go_loopw [196] (fun _ wr => ∃ q : Nat, Hid (Ws wr n₀ b s q d false e va vars sets sv) ∧ Hid (Below b w wr) ∧ p1 ≤ q ∧ q ≤ p1 + K) (fun _ wr => s.size - atOf b wr)
  case atStart => exact ⟨p1, HQ, BQ, by omega, by omega⟩
  case round =>
    clear c0 c1 c3
    obtain ⟨q, HR, BR, hq1, hq2⟩ := hrel
    have hat := (unhide HR).wk.at
    have HAT := hide hat
    have c0 := (unhide HR).wk.c0
    have c1 := (unhide HR).wk.c1
    have z1 := (unhide HR).wk.blk.frozen 1
    have HSG := hide (rsign_any q b s q d false e va sv wr (unhide HR).wk)
    have hbq : sbb s q = byteA (c :: r) (q - p1) := by
      have := unhide HBT (q - p1)
      rwa [show p1 + (q - p1) = q by omega] at this
    have hsp := unhide HSP (q - p1) (by omega)
    obtain ⟨bv, hbv⟩ : ∃ x, x = sbb s q := ⟨_, rfl⟩
    rw [← hbv] at HSG hbq
    rw [← hbq] at hsp
    have hfirst : q = p1 → alpB bv = false := fun hqp => by
      rw [hbq, hqp, Nat.sub_self]
      exact unhide HA
    clear hat hbv hbq
    by_cases hqk : q < p1 + K
    · have hnm := (hsp.1 (by omega)).2
      obtain ⟨q1, hq1e⟩ : ∃ x, x = q + 1 := ⟨_, rfl⟩
      have hwq : IntKind.i64.wrap ((q : Int) + 1) = (q1 : Int) := by rw [IntKind.wrap_i64]; omega
      have HN2 : Hid (Ws (wr.setCell ⟨b, 1, none⟩ (.int .i64 (q1 : Int))) n₀ b s q1 d false e va vars sets sv) := hide ((unhide HR).next (grown_setCell wr ⟨b, 1, none⟩ _) ((unhide HR).wk.to q1 (by omega)) (by omega) (by have := (unhide HR).dle; omega))
      have BN2 := hide ((unhide BR).trans (below_some (grown_setCell wr ⟨b, 1, none⟩ (.int .i64 (q1 : Int))) (Nat.le_of_lt (unhide HR).wk.blk.lt)))
      have HM := hide (show s.size - atOf b (wr.setCell ⟨b, 1, none⟩ (.int .i64 (q1 : Int))) < s.size - atOf b wr by rw [(unhide HN2).wk.at, unhide HAT]; omega)
      have hr1 : p1 ≤ q1 ∧ q1 ≤ p1 + K := by omega
      rcases Bool.eq_false_or_eq_true (digB bv) with hd | hd
      · clear hsp hfirst hq1e
        go_wp2_with fail
        refine (unhide HSG).mono ?_
        rintro en w4 ⟨rfl, hw4⟩
        have hw5 := hw4.symm
        subst hw5
        clear hw4
        go_wp2_with fail
        refine (rdigit_any _ _).mono ?_
        rintro en w4 ⟨rfl, hw4⟩
        have hw5 := hw4.symm
        subst hw5
        clear hw4
        rw [hd]
        clear hd hnm
        go_wp2
        go_roundw
        case rel => exact ⟨q1, HN2, BN2, hr1.1, hr1.2⟩
        case measure => exact unhide HM
      · have hal : alpB bv = true := by
          unfold namB at hnm
          rw [hd] at hnm
          simpa using hnm
        have hgt : (p1 : Int) < (q : Int) := by
          rcases Nat.lt_or_ge p1 q with h | h
          · omega
          · have := hfirst (by omega)
            rw [hal] at this
            cases this
        clear hsp hfirst hq1e
        go_wp2_with fail
        refine (unhide HSG).mono ?_
        rintro en w4 ⟨rfl, hw4⟩
        have hw5 := hw4.symm
        subst hw5
        clear hw4
        go_wp2_with fail
        refine (rdigit_any _ _).mono ?_
        rintro en w4 ⟨rfl, hw4⟩
        have hw5 := hw4.symm
        subst hw5
        clear hw4
        rw [hd]
        clear hd hnm
        go_wp2_with fail
        refine (unhide HSG).mono ?_
        rintro en w4 ⟨rfl, hw4⟩
        have hw5 := hw4.symm
        subst hw5
        clear hw4
        go_wp2_with fail
        refine (ralpha_any _ _).mono ?_
        rintro en w4 ⟨rfl, hw4⟩
        have hw5 := hw4.symm
        subst hw5
        clear hw4
        rw [hal]
        clear hal
        go_wp2
        go_roundw
        case rel => exact ⟨q1, HN2, BN2, hr1.1, hr1.2⟩
        case measure => exact unhide HM
    · have hqe : q = p1 + K := by omega
      have hnm := hsp.2 (by omega)
      have hdg : digB bv = false := by
        unfold namB at hnm
        simp at hnm
        exact hnm.2
      have hal : alpB bv = false := by
        unfold namB at hnm
        simp at hnm
        exact hnm.1
      have hex : s.extract p1 q = BA (wordL (c :: r)) := by
        rw [hqe, extract_one, unhide HDD, unhide HKE]
        rfl
      have hdq : s.data.toList.drop q = (c :: r).drop (spanN namB (c :: r)) := by rw [hqe, ← List.drop_drop, unhide HDD, unhide HKE]
      have hnum : ∀ w, Calls Tryz.prog 23 #[.string (s.extract p1 q)] w fun e w' => RnEnd (rnumW (BA (wordL (c :: r)))) e ∧ w' = w := fun w => by
        rw [hex]
        exact rnum_any _ w (by rw [← hex, ByteArray.size_extract]; omega)
      have hqs : q ≤ s.size := by omega
      have HDQ := hide hdq
      clear hsp hfirst hnm hqe hex hdq HSP
      by_cases hqp : q = p1
      · have hgt : ¬ (p1 : Int) < (q : Int) := by omega
        have HQP := hide hqp
        clear hqp
        go_wp2_with fail
        refine (unhide HSG).mono ?_
        rintro en w4 ⟨rfl, hw4⟩
        have hw5 := hw4.symm
        subst hw5
        clear hw4
        go_wp2_with fail
        refine (rdigit_any _ _).mono ?_
        rintro en w4 ⟨rfl, hw4⟩
        have hw5 := hw4.symm
        subst hw5
        clear hw4
        rw [hdg]
        clear hdg hal
        rcases hu : rnumW (BA (wordL (c :: r))) with _ | u
        · rw [hu] at hnum HDR
          have HNU : Hid (∀ w, Calls Tryz.prog 23 #[.string (s.extract p1 q)] w fun e w' => e = .returned (.tuple #[.int .u64 0, .bool false]) ∧ w' = w) := hide hnum
          clear hnum hu
          go_wp2_with fail
          go_quiet ((go_at_call 23; exact Calls.quiet_of_same (unhide HNU _)))
          obtain ⟨wt, hwt⟩ : ∃ x, x = wr.drewN nq := ⟨_, rfl⟩
          have hgt2 : wr.grownBy wt none := by rw [hwt]; exact grown_drewN wr nq
          rw [← hwt]
          have HT := hide ((unhide HR).next (grown_but hgt2 _) ((unhide HR).wk.kept hgt2) (Nat.le_refl _) (unhide HR).dle)
          have BT := hide ((unhide BR).trans (below_some (grown_but hgt2 (some b)) (Nat.le_of_lt (unhide HR).wk.blk.lt)))
          clear hwt hgt2 c0 c1 z1
          have c3 := (unhide HT).wk.c3
          have z3 := (unhide HT).wk.blk.frozen 3
          go_wp2
          go_ret
          exact out_bad ((unhide BT).trans (below_some (grown_setCell wt ⟨b, 3, none⟩ _) (Nat.le_of_lt (unhide HT).wk.blk.lt))) (by omega) ((unhide HT).next (grown_setCell wt ⟨b, 3, none⟩ _) (unhide HT).wk.bad (Nat.le_refl _) (unhide HT).dle) (unhide HDR) 0 ⟨by decide, by decide⟩
        · rw [hu] at hnum HDR
          have hrg := rnumW_range hu
          have HNU : Hid (∀ w, Calls Tryz.prog 23 #[.string (s.extract p1 q)] w fun e w' => e = .returned (.tuple #[.int .u64 u, .bool true]) ∧ w' = w) := hide hnum
          clear hnum hu
          go_wp2_with fail
          go_quiet ((go_at_call 23; exact Calls.quiet_of_same (unhide HNU _)))
          obtain ⟨wt, hwt⟩ : ∃ x, x = wr.drewN nq := ⟨_, rfl⟩
          have hgt2 : wr.grownBy wt none := by rw [hwt]; exact grown_drewN wr nq
          rw [← hwt]
          have HT := hide ((unhide HR).next (grown_but hgt2 _) ((unhide HR).wk.kept hgt2) (Nat.le_refl _) (unhide HR).dle)
          have BT := hide ((unhide BR).trans (below_some (grown_but hgt2 (some b)) (Nat.le_of_lt (unhide HR).wk.blk.lt)))
          clear hwt hgt2 c0 c1 z1
          have c3 := (unhide HT).wk.c3
          have z3 := (unhide HT).wk.blk.frozen 3
          by_cases hub : u = 9223372036854775808
          · subst hub
            go_wp2
            go_ret
            exact out_bad ((unhide BT).trans (below_some (grown_setCell wt ⟨b, 3, none⟩ _) (Nat.le_of_lt (unhide HT).wk.blk.lt))) (by omega) ((unhide HT).next (grown_setCell wt ⟨b, 3, none⟩ _) (unhide HT).wk.bad (Nat.le_refl _) (unhide HT).dle) (unhide HDR) 0 ⟨by decide, by decide⟩
          · have hub' : (u == 9223372036854775808) = false := by simpa using hub
            have huw : IntKind.i64.wrap u = u := by rw [IntKind.wrap_i64]; omega
            have HDR2 := hide ((unhide HDR).trans (if_neg hub))
            have HUR : Hid (I64 u) := hide ⟨by omega, by omega⟩
            clear hub hrg
            go_wp2
            go_ret
            exact out_ok (unhide BT) (by omega) (unhide HT) (unhide HDQ) (unhide HDR2) (unhide HUR) (Ev.num vars u d e sets)
      · have hgt : (p1 : Int) < (q : Int) := by omega
        clear hqp
        go_wp2_with fail
        refine (unhide HSG).mono ?_
        rintro en w4 ⟨rfl, hw4⟩
        have hw5 := hw4.symm
        subst hw5
        clear hw4
        go_wp2_with fail
        refine (rdigit_any _ _).mono ?_
        rintro en w4 ⟨rfl, hw4⟩
        have hw5 := hw4.symm
        subst hw5
        clear hw4
        rw [hdg]
        clear hdg
        go_wp2_with fail
        refine (unhide HSG).mono ?_
        rintro en w4 ⟨rfl, hw4⟩
        have hw5 := hw4.symm
        subst hw5
        clear hw4
        go_wp2_with fail
        refine (ralpha_any _ _).mono ?_
        rintro en w4 ⟨rfl, hw4⟩
        have hw5 := hw4.symm
        subst hw5
        clear hw4
        rw [hal]
        clear hal
        rcases hu : rnumW (BA (wordL (c :: r))) with _ | u
        · rw [hu] at hnum HDR
          have HNU : Hid (∀ w, Calls Tryz.prog 23 #[.string (s.extract p1 q)] w fun e w' => e = .returned (.tuple #[.int .u64 0, .bool false]) ∧ w' = w) := hide hnum
          clear hnum hu
          go_wp2_with fail
          go_quiet ((go_at_call 23; exact Calls.quiet_of_same (unhide HNU _)))
          obtain ⟨wt, hwt⟩ : ∃ x, x = wr.drewN nq := ⟨_, rfl⟩
          have hgt2 : wr.grownBy wt none := by rw [hwt]; exact grown_drewN wr nq
          rw [← hwt]
          have HT := hide ((unhide HR).next (grown_but hgt2 _) ((unhide HR).wk.kept hgt2) (Nat.le_refl _) (unhide HR).dle)
          have BT := hide ((unhide BR).trans (below_some (grown_but hgt2 (some b)) (Nat.le_of_lt (unhide HR).wk.blk.lt)))
          clear hwt hgt2 c0 c1 z1
          have c3 := (unhide HT).wk.c3
          have z3 := (unhide HT).wk.blk.frozen 3
          go_wp2
          go_ret
          exact out_bad ((unhide BT).trans (below_some (grown_setCell wt ⟨b, 3, none⟩ _) (Nat.le_of_lt (unhide HT).wk.blk.lt))) (by omega) ((unhide HT).next (grown_setCell wt ⟨b, 3, none⟩ _) (unhide HT).wk.bad (Nat.le_refl _) (unhide HT).dle) (unhide HDR) 0 ⟨by decide, by decide⟩
        · rw [hu] at hnum HDR
          have hrg := rnumW_range hu
          have HNU : Hid (∀ w, Calls Tryz.prog 23 #[.string (s.extract p1 q)] w fun e w' => e = .returned (.tuple #[.int .u64 u, .bool true]) ∧ w' = w) := hide hnum
          clear hnum hu
          go_wp2_with fail
          go_quiet ((go_at_call 23; exact Calls.quiet_of_same (unhide HNU _)))
          obtain ⟨wt, hwt⟩ : ∃ x, x = wr.drewN nq := ⟨_, rfl⟩
          have hgt2 : wr.grownBy wt none := by rw [hwt]; exact grown_drewN wr nq
          rw [← hwt]
          have HT := hide ((unhide HR).next (grown_but hgt2 _) ((unhide HR).wk.kept hgt2) (Nat.le_refl _) (unhide HR).dle)
          have BT := hide ((unhide BR).trans (below_some (grown_but hgt2 (some b)) (Nat.le_of_lt (unhide HR).wk.blk.lt)))
          clear hwt hgt2 c0 c1 z1
          have c3 := (unhide HT).wk.c3
          have z3 := (unhide HT).wk.blk.frozen 3
          by_cases hub : u = 9223372036854775808
          · subst hub
            go_wp2
            go_ret
            exact out_bad ((unhide BT).trans (below_some (grown_setCell wt ⟨b, 3, none⟩ _) (Nat.le_of_lt (unhide HT).wk.blk.lt))) (by omega) ((unhide HT).next (grown_setCell wt ⟨b, 3, none⟩ _) (unhide HT).wk.bad (Nat.le_refl _) (unhide HT).dle) (unhide HDR) 0 ⟨by decide, by decide⟩
          · have hub' : (u == 9223372036854775808) = false := by simpa using hub
            have huw : IntKind.i64.wrap u = u := by rw [IntKind.wrap_i64]; omega
            have HDR2 := hide ((unhide HDR).trans (if_neg hub))
            have HUR : Hid (I64 u) := hide ⟨by omega, by omega⟩
            clear hub hrg
            go_wp2
            go_ret
            exact out_ok (unhide BT) (by omega) (unhide HT) (unhide HDQ) (unhide HDR2) (unhide HUR) (Ev.num vars u d e sets)

end Go.Proofs.YtlbpeknncakfeaaGreatDoor

/- The document's 'Eval'. -/
namespace Go.Proofs.YtlbpeknncakfeaaGreatDoor
open Go.RowKit Go.Maps
attribute [local irreducible] findOp findSign

theorem operandD_step {M : Nat} (hR : ∀ N, N < M → Meth 118 DR N) (hE : ∀ N, N < M → Meth 27 DE N) : Meth 118 DR M := by
  intro w n₀ b s p d e va vars sets sv h hN
  have hsk := skp_le h.wk.le
  rcases hm : sk (s.data.toList.drop p) with _ | ⟨c, r⟩
  · exact operand_end w n₀ b s p d e va vars sets sv h hm
  · have hlt := (drop_step ((drop_skp s p).trans hm)).1
    have hlt2 : s.size - (skp s p + 1) < M := by omega
    rcases hf : findSign [c] with _ | f
    · by_cases h40 : c = 40
      · subst h40
        exact operand_paren w n₀ b s p d e va vars sets sv h r hm hf (hE _ hlt2)
      · rcases Bool.eq_false_or_eq_true (alpB (c.toNat : Int)) with ha | ha
        · exact operand_name w n₀ b s p d e va vars sets sv h c r hm ha
        · exact operand_num w n₀ b s p d e va vars sets sv h c r hm ha hf h40
    · rcases sign_some hf with ⟨rfl, rfl⟩ | ⟨rfl, rfl⟩ | ⟨rfl, rfl⟩ | ⟨rfl, rfl⟩
      · exact operand_plus w n₀ b s p d e va vars sets sv h r hm hf (hR _ hlt2)
      · exact operand_minus w n₀ b s p d e va vars sets sv h r hm hf (hR _ hlt2)
      · exact operand_not w n₀ b s p d e va vars sets sv h r hm hf (hR _ hlt2)
      · exact operand_inv w n₀ b s p d e va vars sets sv h r hm hf (hR _ hlt2)
theorem all_D (M : Nat) : Meth 118 DR M ∧ Meth 46 DC M ∧ Meth 27 DE M := by
  induction M using Nat.strongRecOn with
  | ind M ih =>
    have hR := operandD_step (fun N hN => (ih N hN).1) (fun N hN => (ih N hN).2.2)
    have s11 := sides_top hR
    have s10 := sides_step (k := 10) (by decide) (by decide) s11
    have s9 := sides_step (k := 9) (by decide) (by decide) s10
    have s8 := sides_step (k := 8) (by decide) (by decide) s9
    have s7 := sides_step (k := 7) (by decide) (by decide) s8
    have s6 := sides_step (k := 6) (by decide) (by decide) s7
    have s5 := sides_step (k := 5) (by decide) (by decide) s6
    have s4 := sides_step (k := 4) (by decide) (by decide) s5
    have s3 := sides_step (k := 3) (by decide) (by decide) s4
    have s2 := sides_step (k := 2) (by decide) (by decide) s3
    have s1 := sides_step (k := 1) (by decide) (by decide) s2
    have hC := choiceD_step s1 (fun N hN => (ih N hN).2.2) (fun N hN => (ih N hN).2.1)
    exact ⟨hR, hC, anyD_step hC (fun N hN => (ih N hN).2.2)⟩
theorem DE_sk (l : List UInt8) : DE (sk l) = DE l := by rw [DE_eq (sk l), DE_eq l, sk_sk]

set_option maxRecDepth 20000 in
set_option maxHeartbeats 16000000 in
theorem reval_any (s : ByteArray) (vars : Pairs) (va : Value) (n₀ : Nat) (w : World) (hv : PRow n₀ w va vars) (hn : n₀ ≤ w.heap.size) (hvl : ∀ p ∈ vars, p.2.length ≤ 100000) :
    Calls Tryz.prog 14 #[.string s, va] w fun e w' => EvalEnd (docL vars s.data.toList) e w' ∧ Below w.heap.size w w' := by
  obtain ⟨aa, ac, rfl, hvm, hvr⟩ := id hv
  have HV := hide hv
  have hll : s.data.toList.length = s.size := by simp
  clear hv hvr
  by_cases hbig : 4096 < s.size
  · have hb' : (4096 : Int) < (s.size : Int) := by omega
    have HD : Hid (docL vars s.data.toList = .error 3) := hide (by unfold docL; rw [if_pos (by omega)])
    clear hll hbig
    go_enter Tryz.func14, Tryz.ntmps14
    go_wp2
    go_ret3
    refine ⟨?_, Below.refl _ _⟩
    rw [unhide HD]
    exact ⟨rfl, by decide⟩
  have hb' : ¬ (4096 : Int) < (s.size : Int) := by omega
  have hdoc : docL vars s.data.toList = if sk s.data.toList = [] then .ok (0, []) else match DE s.data.toList with
    | none => .error 10
    | some (x, r) => if (sk r).isEmpty then evalR vars x [] else .error 10 := by
    unfold docL
    rw [if_neg (by omega)]
    by_cases h0 : sk s.data.toList = []
    · rw [if_pos h0, if_pos ((trim_nil_iff _).2 h0)]
    · rw [if_neg h0, if_neg (fun e => h0 ((trim_nil_iff _).1 e))]
      rfl
  have HDOC := hide hdoc
  have hW0 : Ws (w.alloc (.cells #[.string s, .int .i64 0, .int .i64 0, .bool false, .int .i64 0, .slice aa vars.length ac, .slice none 0 0] 66)) n₀ w.heap.size s 0 0 false 0 (.slice aa vars.length ac) vars [] (.slice none 0 0) :=
    ⟨⟨Blk.new w 66 _, Nat.zero_le _, by omega⟩, (unhide HV).below ((Below.refl _ w).alloc (Nat.le_refl _) _) hn, World.ownsRow_nil _ _ _ _, hn, Nat.zero_le _, Nat.zero_le _, fun _ h => (by cases h), hvl⟩
  have hB0 : Below w.heap.size w (w.alloc (.cells #[.string s, .int .i64 0, .int .i64 0, .bool false, .int .i64 0, .slice aa vars.length ac, .slice none 0 0] 66)) := (Below.refl _ w).alloc (Nat.le_refl _) _
  have hsk := skp_le hW0.wk.le
  have hdr := drop_skp s 0
  rw [List.drop_zero] at hdr
  obtain ⟨p1, hp1⟩ : ∃ x, x = skp s 0 := ⟨_, rfl⟩
  have HSK := hide (rskip_any w.heap.size s 0 0 false 0 (.slice aa vars.length ac) (.slice none 0 0) _ hW0.wk)
  rw [← hp1] at HSK hsk hdr
  have HW0 := hide hW0
  have HB0 := hide hB0
  clear hdoc hW0 hB0 hp1 hbig hvl
  go_enter Tryz.func14, Tryz.ntmps14
  go_wp2_with fail
  generalize hb : w.heap.size = b at *
  refine (unhide HSK).mono ?_
  rintro en w1 ⟨rfl, k1, g1⟩
  have c1 := k1.c1
  have HW1 := hide ((unhide HW0).next g1 k1 (Nat.zero_le _) (Nat.zero_le _))
  have B1 := hide ((unhide HB0).trans (below_some g1 (Nat.le_of_lt (unhide HW0).wk.blk.lt)))
  have HBE := hide hb
  clear k1 g1 HSK HW0 HB0 hb
  by_cases hpe : p1 = s.size
  · have hs0 : sk s.data.toList = [] := by rw [← hdr, hpe]; exact List.drop_eq_nil_of_le (by omega)
    have HD := hide ((unhide HDOC).trans (if_pos hs0))
    have hpb : ((p1 : Int) == (s.size : Int)) = true := by rw [beq_iff_eq]; omega
    clear hpe hs0 hdr
    go_wp2
    go_ret3
    refine ⟨?_, by rw [unhide HBE]; exact unhide B1⟩
    rw [unhide HD]
    exact ⟨⟨by decide, by decide⟩, by simp, _, rfl, PRow.nil _ _⟩
  · have hs0 : ¬ sk s.data.toList = [] := by
      rw [← hdr]
      intro e
      have := congrArg List.length e
      rw [List.length_drop] at this
      simp at this
      omega
    have HD := hide ((unhide HDOC).trans (if_neg hs0))
    have hpb : ((p1 : Int) == (s.size : Int)) = false := by rw [beq_eq_false_iff_ne]; omega
    have HDR := hide hdr
    clear hpe hs0 hdr
    go_wp2_with fail
    refine ((all_D s.size).2.2 w1 n₀ b s p1 0 0 (.slice aa vars.length ac) vars [] (.slice none 0 0) (unhide HW1) (by omega)).mono ?_
    rintro en w3 ⟨b3, n3, rfl, hn3, p3, e3, t3, sv3, hp3, hr3⟩
    rw [unhide HDR, DE_sk] at hr3
    have B3 := hide ((unhide B1).trans b3)
    have HN3 := hide hn3
    clear b3 hn3 c1
    rcases hq3 : DE s.data.toList with _ | ⟨x, r⟩
    · rw [hq3] at hr3
      have HR3 := hide hr3
      have HD2 : Hid (docL vars s.data.toList = .error 10) := hide (by rw [unhide HD, hq3])
      clear hr3 hq3
      go_wp2_with fail
      refine (rskip_any b s p3 0 true e3 _ sv3 _ (unhide HR3).wk).mono ?_
      rintro en w5 ⟨rfl, k5, g5⟩
      have x3 := k5.c3
      have B5 := hide ((unhide B3).trans (below_some g5 (Nat.le_of_lt (unhide HR3).wk.blk.lt)))
      clear k5 g5
      go_wp2
      go_ret3
      refine ⟨?_, by rw [unhide HBE]; exact unhide B5⟩
      rw [unhide HD2]
      exact ⟨rfl, by decide⟩
    · rw [hq3] at hr3
      obtain ⟨hr3, hrest3, hev3⟩ := hr3
      have HR4 := hide hr3
      have HEV3 := hide hev3
      have hsk4 := skp_le (unhide HR4).wk.le
      have hdr4 := drop_skp s p3
      rw [hrest3] at hdr4
      obtain ⟨p4, hp4⟩ : ∃ x, x = skp s p3 := ⟨_, rfl⟩
      have HSK4 := hide (rskip_any b s p3 0 false e3 _ sv3 _ (unhide HR4).wk)
      rw [← hp4] at HSK4 hsk4 hdr4
      have HD2 : Hid (docL vars s.data.toList = if (sk r).isEmpty then evalR vars x [] else .error 10) := hide (by rw [unhide HD, hq3])
      clear hr3 hq3 hrest3 hev3 hp4
      go_wp2_with fail
      refine (unhide HSK4).mono ?_
      rintro en w5 ⟨rfl, k5, g5⟩
      have x1 := k5.c1
      have x3 := k5.c3
      have x4 := k5.c4
      have x6 := k5.c6
      have HW5 := hide ((unhide HR4).next g5 k5 hsk4.2 (Nat.zero_le _))
      have B5 := hide ((unhide B3).trans (below_some g5 (Nat.le_of_lt (unhide HR4).wk.blk.lt)))
      clear k5 g5 HSK4
      by_cases hend : p4 < s.size
      · have hne : (sk r).isEmpty = false := by
          rw [← hdr4, List.drop_eq_getElem_cons (by omega)]
          rfl
        have HD3 : Hid (docL vars s.data.toList = .error 10) := hide (by rw [unhide HD2, hne]; rfl)
        have hend' : (p4 : Int) < (s.size : Int) := by omega
        clear hne hend hdr4 x4 x6
        go_wp2
        go_ret3
        refine ⟨?_, by rw [unhide HBE]; exact unhide B5⟩
        rw [unhide HD3]
        exact ⟨rfl, by decide⟩
      · have hne : (sk r).isEmpty = true := by
          rw [← hdr4, List.drop_eq_nil_of_le (by omega)]
          rfl
        have HD3 : Hid (docL vars s.data.toList = evalR vars x []) := hide (by rw [unhide HD2, hne]; rfl)
        have hend' : ¬ (p4 : Int) < (s.size : Int) := by omega
        clear hne hend hdr4
        have hev := unhide HEV3
        rw [show liveB 0 false 0 = true from rfl] at hev
        rcases hv : evalR vars x [] with c | ⟨m, t⟩
        · obtain ⟨rfl, hc⟩ := hev.err hv
          have hc' : (e3 == 0) = false := by simpa using hc
          have HC := hide hc
          have HVV := hide hv
          clear hev hc hv
          go_wp2_with fail
          go_quiet (fail)
          go_wp2
          go_ret3
          refine ⟨?_, by rw [unhide HBE]; exact (unhide B5).trans (below_some (grown_but (grown_drewN w5 _) (some b)) (Nat.le_of_lt (unhide HW5).wk.blk.lt))⟩
          rw [unhide HD3, unhide HVV]
          exact ⟨rfl, unhide HC⟩
        · obtain ⟨rfl, rfl, rfl⟩ := hev.ok hv
          have HVV := hide hv
          have hcnt := (unhide HW5).cnt
          obtain ⟨sa, sc, rfl⟩ := own_shape (unhide HW5).row
          clear hev hv
          go_wp2_with fail
          go_quiet (fail)
          go_wp2
          go_ret3
          refine ⟨?_, by rw [unhide HBE]; exact (unhide B5).trans (below_some (grown_but (grown_drewN w5 _) (some b)) (Nat.le_of_lt (unhide HW5).wk.blk.lt))⟩
          rw [unhide HD3, unhide HVV]
          exact ⟨unhide HN3, by omega, _, rfl, row_of_own68 (ownsRow_below (unhide HW5).row (below_of_grown (grown_drewN w5 _))) (by omega) (Nat.le_refl _)⟩

end Go.Proofs.YtlbpeknncakfeaaGreatDoor

/-
  InodesCuts: a node that is cut has what it had up to there, and bytes 0 behind it, when it is made longer again.
-/
import Derived.Test.YtcfhgjlihifmnaaIIsD
import Derived.Deep.RegionHeld
namespace Go.Proofs.Ytcfhgjlihifmnaa
open Go.RowKit Go.Maps

theorem cu_make : makeN [none] 1 = 1 ∧ makeE [none] 1 = 0 ∧ makeT [none] 1 = [some (nd0 1)] := ⟨by decide, by decide, rfl⟩
theorem cu_text {x : Nd} {d : List UInt8} (h : IsD x d) (a b : Nat) : datOf (cutN (cutN x a) b) = d.take (min (min d.length a) b) ++ List.replicate (b - min (min d.length a) b) 0 := by
  apply List.ext_getElem
  · rw [datOf_len, List.length_append, List.length_take, List.length_replicate]
    show b = _
    omega
  · intro j h1 h2
    rw [datOf_len] at h1
    have h1 : j < b := h1
    simp only [datOf, List.getElem_map, List.getElem_range]
    show (if j < b then (if j < a then x.byt j else 0) else 0) = _
    rw [if_pos h1, h.byt]
    by_cases hj : j < min (min d.length a) b
    · rw [List.getElem_append_left (by rw [List.length_take]; omega), if_pos (by omega), List.getElem_take, List.getD_eq_getElem?_getD, List.getElem?_eq_getElem (by omega)]
      rfl
    · rw [List.getElem_append_right (by rw [List.length_take]; omega), List.getElem_replicate]
      by_cases ha : j < a
      · rw [if_pos ha, List.getD_eq_getElem?_getD, List.getElem?_eq_none (by omega)]
        rfl
      · rw [if_neg ha]

set_option maxRecDepth 20000 in
set_option maxHeartbeats 2000000 in
theorem cuts_walk (d : List UInt8) (a b : Int) (w : World) (hab : -9223372036854775808 ≤ a ∧ a ≤ 9223372036854775807) (hbb : -9223372036854775808 ≤ b ∧ b ≤ 9223372036854775807) : Calls Try.prog 6 #[.string (BA d), .agg #[.int .i64 a, .int .i64 b]] w fun e w' => e = .returned (.bool true) ∧ Below w.heap.size w w' := by
  obtain ⟨W0, hW0⟩ : ∃ W0, W0 = w.alloc (.cells #[.int .i64 a, .int .i64 b] 22) := ⟨_, rfl⟩
  have hb0 : Below w.heap.size w W0 := by rw [hW0]; exact (Below.refl _ _).alloc (Nat.le_refl _) _
  have k0 : Blk W0 w.heap.size 22 #[.int .i64 a, .int .i64 b] := by rw [hW0]; exact Blk.new _ _ _
  have HA : Hid (∀ W, Below W0.heap.size W0 W → Calls Try.prog 11 #[] W fun e w' => e = .returned (.bool true) ∧ w'.cell? ⟨w.heap.size, 1, none⟩ = some (.int .i64 b) ∧ Hid (Below w.heap.size w w')) := hide (fun W hW => (awake_any W).mono (fun e w' ⟨h1, h2⟩ => ⟨h1, (k0.below (hW.trans (h2.mono hW.size)) k0.lt).cell 1 rfl, hide (hb0.trans ((hW.trans (h2.mono hW.size)).mono hb0.size))⟩))
  have c0 := k0.cell 0 rfl
  have c1 := k0.cell 1 rfl
  change _ = some (Value.int .i64 a) at c0
  change _ = some (Value.int .i64 b) at c1
  obtain ⟨S, hS⟩ : ∃ S, S = BA d := ⟨_, rfl⟩
  have hSs : S.size = d.length := by rw [hS]; rfl
  by_cases hbad : 2000 < d.length ∨ a < 0 ∨ 4096 < a ∨ b < 0 ∨ 4096 < b
  · have hcase : (2000 : Int) < (d.length : Int) ∨ (¬ (2000 : Int) < (d.length : Int) ∧ a < 0) ∨ (¬ (2000 : Int) < (d.length : Int) ∧ ¬ a < 0 ∧ 4096 < a) ∨ (¬ (2000 : Int) < (d.length : Int) ∧ ¬ a < 0 ∧ ¬ 4096 < a ∧ b < 0) ∨ (¬ (2000 : Int) < (d.length : Int) ∧ ¬ a < 0 ∧ ¬ 4096 < a ∧ ¬ b < 0 ∧ 4096 < b) := by omega
    rw [← hS]
    obtain ⟨n, hn⟩ : ∃ n, n = d.length := ⟨_, rfl⟩
    rw [← hn] at hcase hSs
    have HA0 := hide (unhide HA W0 (Below.refl _ _))
    rw [hW0] at HA0
    clear hbad hS hn c0 c1 k0 hb0 HA hW0
    rcases hcase with h1 | ⟨h1, h2⟩ | ⟨h1, h2, h3⟩ | ⟨h1, h2, h3, h4⟩ | ⟨h1, h2, h3, h4, h5⟩
    all_goals
      go_enter Try.func6, Try.ntmps6
      go_wp2_with fail
      refine (unhide HA0).mono ?_
      rintro e w1 ⟨rfl, _, hw1⟩
      go_wp2
      go_ret
      exact ⟨rfl, unhide hw1⟩
  · obtain ⟨a', rfl⟩ : ∃ a' : Nat, a = a' := ⟨a.toNat, by omega⟩
    obtain ⟨b', rfl⟩ : ∃ b' : Nat, b = b' := ⟨b.toNat, by omega⟩
    have h1 : ¬ (2000 : Int) < (d.length : Int) := by omega
    have h2 : ¬ (a' : Int) < 0 := by omega
    have h3 : ¬ (4096 : Int) < (a' : Int) := by omega
    have h4 : ¬ (b' : Int) < 0 := by omega
    have h5 : ¬ (4096 : Int) < (b' : Int) := by omega
    have HNW := hide (new_hd 1 64 W0 W0 (Below.refl _ _) (by decide) (by decide) (by decide) (by decide))
    have HMK : Hid (∀ W p, Hd W0 W p [none] 64 0 → Calls Try.prog 25 #[.pointer (some ⟨p, 0, none⟩), .int .i64 1] W fun e w' => e = .returned (.tuple #[.int .i64 1, .int .i64 0]) ∧ Hid (Hd W0 w' p [some (nd0 1)] 64 0)) := hide (fun W p H => by
      have := make_hd H 1
      rw [cu_make.1, cu_make.2.1, cu_make.2.2] at this
      exact this)
    have HWR : Hid (∀ W p, Hd W0 W p [some (nd0 1)] 64 0 → Calls Try.prog 14 #[.pointer (some ⟨p, 0, none⟩), .int .i64 1, .int .i64 0, .string S] W fun e w' => e = .returned (.tuple #[.int .i64 (d.length : Int), .int .i64 0]) ∧ w'.cell? ⟨w.heap.size, 0, none⟩ = some (.int .i64 (a' : Int)) ∧ Hid (∃ x, IsD x d ∧ Hd W0 w' p [some x] 64 0)) := hide (fun W p H => by
      rw [hS]
      refine (write_hd H 1 0 d (by decide) (by decide) (by omega)).mono ?_
      rintro e w' ⟨N, E, h6, T', hT, hH⟩
      rw [show usedT [some (nd0 1)] = 0 by decide] at hT
      obtain ⟨rfl, rfl, x, rfl, hx⟩ := put_all (T := [some (nd0 1)]) (k := 0) (x := nd0 1) rfl rfl (fun _ => rfl) rfl (by omega) (by decide) hT
      exact ⟨h6, (k0.below hH.bel k0.lt).cell 0 rfl, hide ⟨x, hx, hH⟩⟩)
    have HCT : Hid (∀ W p x (s : Nat), s ≤ 4096 → Hd W0 W p [some x] 64 0 → Calls Try.prog 29 #[.pointer (some ⟨p, 0, none⟩), .int .i64 1, .int .i64 (s : Int)] W fun e w' => e = .returned (.int .i64 0) ∧ (w'.cell? ⟨w.heap.size, 0, none⟩ = some (.int .i64 (a' : Int)) ∧ w'.cell? ⟨w.heap.size, 1, none⟩ = some (.int .i64 (b' : Int))) ∧ Hid (Hd W0 w' p [some (cutN x s)] 64 0)) := hide (fun W p x s hs H => by
      refine (cut_hd H 1 (s : Int) (by decide)).mono ?_
      rintro e w' ⟨h6, h7⟩
      have e1 : cutE [some x] 1 (s : Int) = 0 := by
        show (if (s : Int) < 0 then (1 : Int) else if (4096 : Int) < (s : Int) then 3 else 0) = 0
        rw [if_neg (by omega), if_neg (by omega)]
      have e2 : cutT [some x] 1 (s : Int) = [some (cutN x s)] := by
        show (if (s : Int) < 0 ∨ (4096 : Int) < (s : Int) then _ else [some (cutN x ((s : Int)).toNat)]) = _
        rw [if_neg (by omega), show ((s : Int)).toNat = s by omega]
      rw [e1] at h6
      rw [e2] at h7
      exact ⟨h6, ⟨(k0.below h7.bel k0.lt).cell 0 rfl, (k0.below h7.bel k0.lt).cell 1 rfl⟩, h7⟩)
    obtain ⟨kp, hkp⟩ : ∃ kp, kp = min (min d.length a') b' := ⟨_, rfl⟩
    have HRD : Hid (∀ W p x, IsD x d → Hd W0 W p [some (cutN (cutN x a') b')] 64 0 → Calls Try.prog 24 #[.pointer (some ⟨p, 0, none⟩), .int .i64 1, .int .i64 0, .int .i64 5000] W fun e w' => e = .returned (.tuple #[.string (BA (d.take kp ++ List.replicate (b' - kp) 0)), .int .i64 0]) ∧ w'.cell? ⟨w.heap.size, 1, none⟩ = some (.int .i64 (b' : Int)) ∧ Hid (Below W0.heap.size W0 w')) := hide (fun W p x hx H => by
      refine (read_hd H 1 0 5000 (by decide) (by decide)).mono ?_
      rintro e w' ⟨h6, h7⟩
      have e1 : rdT [some (cutN (cutN x a') b')] 1 0 5000 = d.take kp ++ List.replicate (b' - kp) 0 := by
        show ((datOf (cutN (cutN x a') b')).drop 0).take 5000 = _
        rw [List.drop_zero, List.take_of_length_le (by rw [datOf_len]; show b' ≤ 5000; omega), cu_text hx, ← hkp]
      rw [e1, show rdE [some (cutN (cutN x a') b')] 1 0 5000 = 0 by rfl] at h6
      exact ⟨h6, (k0.below h7.1.bel k0.lt).cell 1 rfl, hide h7.1.bel⟩)
    have hmin : min (min (d.length : Int) (a' : Int)) (b' : Int) = (kp : Int) := by omega
    have hkd : kp ≤ d.length := by omega
    have hkb : kp ≤ b' := by omega
    have hex : S.extract 0 kp = BA (d.take kp) := by rw [hS]; exact ext_take d kp
    obtain ⟨zn, hzn⟩ : ∃ zn, zn = b' - kp := ⟨_, rfl⟩
    obtain ⟨zc, mk, cv, cv2⟩ := zeros_run zn (by omega)
    have hwz : IntKind.i64.wrap ((b' : Int) - (kp : Int)) = (zn : Int) := by rw [IntKind.wrap_i64]; omega
    have hcat : ∀ W : World, (Op.stringOp .add (BA (d.take kp)) (BA (List.replicate zn 0))).run Try.prog W = .ok (.string (BA (d.take kp) ++ BA (List.replicate zn 0))) W := fun W => run_string_add_sum W _ _ (by rw [BA_size, BA_size, List.length_take, List.length_replicate]; omega)
    rw [BA_add] at hcat
    obtain ⟨R, hR⟩ : ∃ R, R = BA (d.take kp ++ List.replicate zn 0) := ⟨_, rfl⟩
    rw [← hzn, ← hR] at HRD
    simp only [← hR] at hcat
    obtain ⟨A1, hA1⟩ : ∃ A1, A1 = BA (d.take kp) := ⟨_, rfl⟩
    obtain ⟨Z1, hZ1⟩ : ∃ Z1, Z1 = BA (List.replicate zn 0) := ⟨_, rfl⟩
    rw [← hA1] at hex
    simp only [← hA1, ← hZ1] at hcat
    simp only [← hZ1] at cv cv2
    rw [← hS]
    obtain ⟨dl, hdl⟩ : ∃ dl, dl = d.length := ⟨_, rfl⟩
    rw [← hdl] at hSs h1 hmin hkd HWR
    have HW0 := hide hW0
    clear hbad hS hdl hab hbb hR hA1 hZ1 k0 hb0 hkp hzn
    have hcs : (¬ (a' : Int) < (dl : Int) ∧ ¬ (b' : Int) < (dl : Int) ∧ dl = kp) ∨ ((a' : Int) < (dl : Int) ∧ ¬ (b' : Int) < (a' : Int) ∧ a' = kp) ∨ ((a' : Int) < (dl : Int) ∧ (b' : Int) < (a' : Int) ∧ b' = kp) ∨ (¬ (a' : Int) < (dl : Int) ∧ (b' : Int) < (dl : Int) ∧ b' = kp) := by omega
    clear hmin
    rcases hcs with ⟨m1, m2, rfl⟩ | ⟨m1, m2, rfl⟩ | ⟨m1, m2, rfl⟩ | ⟨m1, m2, rfl⟩
    all_goals
      try (rw [Int.sub_self] at hwz)
      go_enter Try.func6, Try.ntmps6
      go_wp2_with fail
      rw [← unhide HW0]
      refine (unhide HNW).mono ?_
      rintro e w1 ⟨p, rfl, k1, _⟩
      have K1 : Hid (Hd W0 w1 p [none] 64 0) := hide k1
      clear k1 HNW c0 c1
      go_wp2_with fail
      refine (unhide HMK w1 p (unhide K1)).mono ?_
      rintro e w2 ⟨rfl, K2⟩
      clear K1 HMK
      go_wp2_with fail
      refine (unhide HWR w2 p (unhide K2)).mono ?_
      rintro e w3 ⟨rfl, c3, K3⟩
      clear K2 HWR
      obtain ⟨x, hx, k3⟩ := unhide K3
      have HC1 := hide (unhide HCT w3 p x a' (by omega) k3)
      have HX := hide hx
      clear K3 k3 hx
      go_wp2_with fail
      refine (unhide HC1).mono ?_
      rintro e w4 ⟨rfl, ⟨c4, d4⟩, K4⟩
      clear HC1 c3
      have HC2 := hide (unhide HCT w4 p _ b' (by omega) (unhide K4))
      clear K4 HCT
      go_wp2_with fail
      refine (unhide HC2).mono ?_
      rintro e w5 ⟨rfl, ⟨c5, d5⟩, K5⟩
      clear HC2 c4 d4
      have HR5 := hide (unhide HRD w5 p x (unhide HX) (unhide K5))
      clear K5 HRD HX
      go_wp2_with fail
      refine (unhide HR5).mono ?_
      rintro e w6 ⟨rfl, c6, K6⟩
      clear HR5 c5 d5
      have HA6 : Hid (∀ W, Below w6.heap.size w6 W → Calls Try.prog 11 #[] W fun e w' => e = .returned (.bool true) ∧ w'.cell? ⟨w.heap.size, 1, none⟩ = some (.int .i64 (b' : Int)) ∧ Hid (Below w.heap.size w w')) := hide (fun W hW => unhide HA W ((unhide K6).trans (hW.mono (unhide K6).size)))
      clear HA K6 HW0
      go_wp2_with fail
      go_region_held (fun w' => w'.cell? ⟨w.heap.size, 1, none⟩ = some (.int .i64 (b' : Int))) (go_keep) ((go_at_call 11; refine (unhide HA6 _ (by first | exact ((Below.refl _ _).alloc (Nat.le_refl _) _).trans ((below_drew _ 1).mono (by simp)) | exact Below.refl _ _ | exact below_drew _ _ | exact (Below.refl _ _).alloc (Nat.le_refl _) _)).mono ?_; rintro e wa ⟨rfl, a0, HA2⟩))
      go_wp2
      go_ret
      exact ⟨rfl, unhide HA2⟩

end Go.Proofs.Ytcfhgjlihifmnaa

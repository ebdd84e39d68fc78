/-
  InodesKeeps: what was written is read, what was there ahead stays, what is between is 0, and no other node changes.
-/
import Derived.Test.YtcfhgjlihifmnaaIIsD
namespace Go.Proofs.Ytcfhgjlihifmnaa
open Go.RowKit Go.Maps

theorem isD_dat {x : Nd} {d : List UInt8} (h : IsD x d) : datOf x = d := by
  apply List.ext_getElem
  · rw [datOf_len, h.size]
  · intro j h1 h2
    simp only [datOf, List.getElem_map, List.getElem_range]
    rw [h.byt, List.getD_eq_getElem?_getD, List.getElem?_eq_getElem h2]
    rfl
/-- What a node has, and bytes 0 behind it up to a place. -/
def extL (was : List UInt8) (a : Nat) : List UInt8 := was ++ List.replicate (a - was.length) 0
/-- What a node that had these bytes has, when others are written to it. -/
def wantL (was : List UInt8) (a : Nat) (d : List UInt8) : List UInt8 := (extL was a).take a ++ d ++ (extL was a).drop (a + d.length)
theorem extL_len (was : List UInt8) (a : Nat) : (extL was a).length = max was.length a := by
  unfold extL
  rw [List.length_append, List.length_replicate]
  omega
theorem extL_get (was : List UInt8) (a j : Nat) : (extL was a).getD j 0 = was.getD j 0 := by
  unfold extL
  rw [List.getD_eq_getElem?_getD, List.getD_eq_getElem?_getD, List.getElem?_append]
  split
  · rfl
  · rw [List.getElem?_replicate, List.getElem?_eq_none (l := was) (by omega)]
    split <;> rfl
theorem wantL_len (was : List UInt8) (a : Nat) (d : List UInt8) : (wantL was a d).length = max was.length (a + d.length) := by
  unfold wantL
  rw [List.length_append, List.length_append, List.length_take, List.length_drop, extL_len]
  omega
theorem wantL_get (was : List UInt8) (a : Nat) (d : List UInt8) (j : Nat) : (wantL was a d).getD j 0 = if a ≤ j ∧ j < a + d.length then d.getD (j - a) 0 else was.getD j 0 := by
  have hl : min a (extL was a).length = a := by rw [extL_len]; omega
  unfold wantL
  rw [List.getD_eq_getElem?_getD, List.append_assoc, List.getElem?_append, List.getElem?_append, List.length_take, hl]
  by_cases h1 : j < a
  · rw [if_pos h1, if_neg (by omega), List.getElem?_take, if_pos h1, ← List.getD_eq_getElem?_getD, extL_get]
  · rw [if_neg h1]
    by_cases h2 : j < a + d.length
    · rw [if_pos (by omega), if_pos (by omega), List.getD_eq_getElem?_getD]
    · rw [if_neg (by omega), if_neg (by omega), List.getElem?_drop, show a + d.length + (j - a - d.length) = j by omega, ← List.getD_eq_getElem?_getD, extL_get]
theorem put_over {T T' : TB} {free k a : Nat} {x : Nd} {was d : List UInt8} {N E : Int} (hx : T[k]? = some (some x)) (hD : IsD x was) (ha : a ≤ 2000) (hd : d.length ≤ 1000) (hf : 64 < free) (h : WrSp T free ((k : Int) + 1) (a : Int) d N E T') :
    N = (d.length : Int) ∧ E = 0 ∧ ∃ x', T' = T.set k (some x') ∧ IsD x' (if d = [] then was else wantL was a d) := by
  have hx0 := ndAt_of hx
  cases h with
  | none h => rw [hx0] at h; cases h
  | arg x _ h => omega
  | empty x' _ _ h =>
    subst h
    exact ⟨rfl, rfl, x, (set_self hx).symm, by rw [if_pos rfl]; exact hD⟩
  | big x _ h => omega
  | space x' at' hx' ha hl hd0 hp =>
    have hdl : 0 < d.length := by cases d with | nil => exact absurd rfl hd0 | cons _ _ => simp
    rcases hp.ends with e | ⟨e, _⟩
    · omega
    · rw [hasP_zero] at e
      omega
  | done x' at' n hx' ha2 hl hd0 hn hp =>
    rw [hx0] at hx'
    injection hx' with hx'
    subst hx'
    obtain rfl : at' = a := by omega
    have h1 := hp.le
    obtain rfl : n = d.length := by
      rcases hp.ends with e | ⟨e, _⟩
      · omega
      · have := cnt_le (hasP x.has at' n)
        omega
    refine ⟨rfl, rfl, putN x at' d d.length, by rw [plc_of], ?_⟩
    rw [if_neg hd0]
    refine ⟨?_, fun j => ?_⟩
    · rw [wantL_len]
      show Nat.max x.size (at' + d.length) = _
      rw [hD.size]
    · rw [wantL_get]
      show (if at' ≤ j ∧ j < at' + d.length then d.getD (j - at') 0 else x.byt j) = _
      rw [hD.byt]
theorem used_two (x y : Nd) : usedT [some x, some y, none] ≤ 128 := by
  have h1 := cnt_le x.has
  have h2 := cnt_le y.has
  show cnt x.has + (cnt y.has + (0 + 0)) ≤ 128
  omega
theorem ke_make1 : makeN [none, none, none] 1 = 1 ∧ makeE [none, none, none] 1 = 0 ∧ makeT [none, none, none] 1 = [some (nd0 1), none, none] := ⟨by decide, by decide, rfl⟩
theorem ke_make2 : makeN [some (nd0 1), none, none] 1 = 2 ∧ makeE [some (nd0 1), none, none] 1 = 0 ∧ makeT [some (nd0 1), none, none] 1 = [some (nd0 1), some (nd0 1), none] := ⟨by decide, by decide, rfl⟩

set_option maxRecDepth 20000 in
set_option maxHeartbeats 2000000 in
theorem keeps_walk (was : List UInt8) (a : Int) (d : List UInt8) (w : World) (hab : -9223372036854775808 ≤ a ∧ a ≤ 9223372036854775807) : Calls Try.prog 4 #[.string (BA was), .int .i64 a, .string (BA d)] w fun e w' => e = .returned (.bool true) ∧ Below w.heap.size w w' := by
  have HA := hide (awake_any w)
  obtain ⟨S, hS⟩ : ∃ S, S = BA was := ⟨_, rfl⟩
  have hSs : S.size = was.length := by rw [hS]; rfl
  obtain ⟨Q, hQ⟩ : ∃ Q, Q = BA d := ⟨_, rfl⟩
  have hQs : Q.size = d.length := by rw [hQ]; rfl
  by_cases hbad : 1000 < was.length ∨ a < 0 ∨ 2000 < a ∨ 1000 < d.length
  · have hcase : (1000 : Int) < (was.length : Int) ∨ (¬ (1000 : Int) < (was.length : Int) ∧ a < 0) ∨ (¬ (1000 : Int) < (was.length : Int) ∧ ¬ a < 0 ∧ 2000 < a) ∨ (¬ (1000 : Int) < (was.length : Int) ∧ ¬ a < 0 ∧ ¬ 2000 < a ∧ (1000 : Int) < (d.length : Int)) := by omega
    rw [← hS, ← hQ]
    obtain ⟨n, hn⟩ : ∃ n, n = was.length := ⟨_, rfl⟩
    obtain ⟨m, hm⟩ : ∃ m, m = d.length := ⟨_, rfl⟩
    rw [← hn, ← hm] at hcase
    rw [← hn] at hSs
    rw [← hm] at hQs
    clear hbad hS hn hQ hm
    rcases hcase with h1 | ⟨h1, h2⟩ | ⟨h1, h2, h3⟩ | ⟨h1, h2, h3, h4⟩
    all_goals
      go_enter Try.func4, Try.ntmps4
      go_wp2_with fail
      refine (unhide HA).mono ?_
      rintro e w1 ⟨rfl, hw1⟩
      have HB := hide hw1
      clear hw1
      go_wp2
      go_ret
      exact ⟨rfl, unhide HB⟩
  · obtain ⟨a', rfl⟩ : ∃ a' : Nat, a = a' := ⟨a.toNat, by omega⟩
    have h1 : ¬ (1000 : Int) < (was.length : Int) := by omega
    have h2 : ¬ (a' : Int) < 0 := by omega
    have h3 : ¬ (2000 : Int) < (a' : Int) := by omega
    have h4 : ¬ (1000 : Int) < (d.length : Int) := by omega
    have HNW := hide (new_hd 3 200 w w (Below.refl _ _) (by decide) (by decide) (by decide) (by decide))
    have HW1 : Hid (∀ W p, Hd w W p [some (nd0 1), some (nd0 1), none] 200 0 → Calls Try.prog 14 #[.pointer (some ⟨p, 0, none⟩), .int .i64 1, .int .i64 0, .string S] W fun e w' => ∃ N : Int, e = .returned (.tuple #[.int .i64 N, .int .i64 0]) ∧ Hid (∃ x, IsD x was ∧ Hd w w' p [some x, some (nd0 1), none] 200 0)) := hide (fun W p H => by
      rw [hS]
      refine (write_hd H 1 0 was (by decide) (by decide) (by omega)).mono ?_
      rintro e w' ⟨N, E, h6, T', hT, hH⟩
      obtain ⟨rfl, rfl, x, rfl, hx⟩ := put_all (T := [some (nd0 1), some (nd0 1), none]) (k := 0) (x := nd0 1) rfl rfl (fun _ => rfl) rfl (by omega) (by decide) hT
      exact ⟨_, h6, hide ⟨x, hx, hH⟩⟩)
    have HW2 : Hid (∀ W p x, IsD x was → Hd w W p [some x, some (nd0 1), none] 200 0 → Calls Try.prog 14 #[.pointer (some ⟨p, 0, none⟩), .int .i64 2, .int .i64 0, .string S] W fun e w' => ∃ N : Int, e = .returned (.tuple #[.int .i64 N, .int .i64 0]) ∧ Hid (∃ x y, IsD x was ∧ IsD y was ∧ Hd w w' p [some x, some y, none] 200 0)) := hide (fun W p x hx H => by
      rw [hS]
      refine (write_hd H 2 0 was (by decide) (by decide) (by omega)).mono ?_
      rintro e w' ⟨N, E, h6, T', hT, hH⟩
      have := used_two x (nd0 1)
      obtain ⟨rfl, rfl, y, rfl, hy⟩ := put_all (T := [some x, some (nd0 1), none]) (k := 1) (x := nd0 1) rfl rfl (fun _ => rfl) rfl (by omega) (by omega) hT
      exact ⟨_, h6, hide ⟨x, y, hx, hy, hH⟩⟩)
    obtain ⟨r, hr⟩ : ∃ r, r = if d = [] then was else wantL was a' d := ⟨_, rfl⟩
    have hrl : r.length ≤ 4096 := by
      rw [hr]
      split
      · omega
      · rw [wantL_len]
        omega
    have HW3 : Hid (∀ W p x y, IsD x was → IsD y was → Hd w W p [some x, some y, none] 200 0 → Calls Try.prog 14 #[.pointer (some ⟨p, 0, none⟩), .int .i64 1, .int .i64 (a' : Int), .string Q] W fun e w' => e = .returned (.tuple #[.int .i64 (d.length : Int), .int .i64 0]) ∧ Hid (∃ x y, IsD x r ∧ IsD y was ∧ Hd w w' p [some x, some y, none] 200 0)) := hide (fun W p x y hx hy H => by
      rw [hQ]
      refine (write_hd H 1 (a' : Int) d (by decide) (by omega) (by omega)).mono ?_
      rintro e w' ⟨N, E, h6, T', hT, hH⟩
      have := used_two x y
      obtain ⟨rfl, rfl, x', rfl, hx'⟩ := put_over (T := [some x, some y, none]) (k := 0) (x := x) rfl hx (by omega) (by omega) (by omega) hT
      rw [← hr] at hx'
      exact ⟨h6, hide ⟨x', y, hx', hy, hH⟩⟩)
    have HR1 : Hid (∀ W p x y, IsD x r → Hd w W p [some x, some y, none] 200 0 → Calls Try.prog 24 #[.pointer (some ⟨p, 0, none⟩), .int .i64 1, .int .i64 0, .int .i64 9999] W fun e w' => ∃ E : Int, e = .returned (.tuple #[.string (BA r), .int .i64 E]) ∧ Hid (Hd w w' p [some x, some y, none] 200 0)) := hide (fun W p x y hx H => by
      refine (read_hd H 1 0 9999 (by decide) (by decide)).mono ?_
      rintro e w' ⟨h6, h7⟩
      have e1 : rdT [some x, some y, none] 1 0 9999 = r := by
        show ((datOf x).drop 0).take 9999 = r
        rw [isD_dat hx, List.drop_zero, List.take_of_length_le (by omega)]
      rw [e1] at h6
      exact ⟨_, h6, hide h7.1⟩)
    have HR2 : Hid (∀ W p x y, IsD y was → Hd w W p [some x, some y, none] 200 0 → Calls Try.prog 24 #[.pointer (some ⟨p, 0, none⟩), .int .i64 2, .int .i64 0, .int .i64 9999] W fun e w' => ∃ E : Int, e = .returned (.tuple #[.string S, .int .i64 E]) ∧ Hid (Hd w w' p [some x, some y, none] 200 0)) := hide (fun W p x y hy H => by
      refine (read_hd H 2 0 9999 (by decide) (by decide)).mono ?_
      rintro e w' ⟨h6, h7⟩
      have e1 : rdT [some x, some y, none] 2 0 9999 = was := by
        show ((datOf y).drop 0).take 9999 = was
        rw [isD_dat hy, List.drop_zero, List.take_of_length_le (by omega)]
      rw [e1, ← hS] at h6
      exact ⟨_, h6, hide h7.1⟩)
    have HSZ : Hid (∀ W W1 p x y, Below W.heap.size W W1 → IsD x r → Hd w W p [some x, some y, none] 200 0 → (Calls Try.prog 22 #[.pointer (some ⟨p, 0, none⟩), .int .i64 1] W1 fun e w' => e = .returned (.int .i64 (r.length : Int)) ∧ w' = W1) ∧ Below w.heap.size w W1) := hide (fun W W1 p x y hb hx H => by
      have := size_hd (H.below hb) 1 (by decide)
      rw [show sizeOfN (ndAt [some x, some y, none] 1) = r.length from hx.size] at this
      exact ⟨this, (H.below hb).bel⟩)
    rw [← hS, ← hQ]
    obtain ⟨wl, hwl⟩ : ∃ wl, wl = was.length := ⟨_, rfl⟩
    obtain ⟨dl, hdl⟩ : ∃ dl, dl = d.length := ⟨_, rfl⟩
    obtain ⟨rl, hrl2⟩ : ∃ rl, rl = r.length := ⟨_, rfl⟩
    rw [← hwl] at hSs h1
    rw [← hdl] at hQs h4 HW3
    rw [← hrl2] at HSZ hrl
    obtain ⟨R, hR⟩ : ∃ R, R = BA r := ⟨_, rfl⟩
    rw [← hR] at HR1
    have hRs : R.size = rl := by rw [hR, hrl2]; rfl
    have HL := hide (And.intro hr (And.intro hwl (And.intro hdl (And.intro hR (And.intro hS hQ)))))
    clear hbad hwl hdl hrl2 hR hS hQ hab hr
    go_enter Try.func4, Try.ntmps4
    go_wp2_with fail
    refine (unhide HNW).mono ?_
    rintro e w1 ⟨p, rfl, k1, _⟩
    have K1 : Hid (Hd w w1 p [none, none, none] 200 0) := hide k1
    clear k1 HNW
    go_wp2_with fail
    refine (make_hd (unhide K1) 1).mono ?_
    rw [ke_make1.1, ke_make1.2.1, ke_make1.2.2]
    rintro e w2 ⟨rfl, K2⟩
    clear K1
    go_wp2_with fail
    refine (make_hd (unhide K2) 1).mono ?_
    rw [ke_make2.1, ke_make2.2.1, ke_make2.2.2]
    rintro e w3 ⟨rfl, K3⟩
    clear K2
    go_wp2_with fail
    refine (unhide HW1 w3 p (unhide K3)).mono ?_
    rintro e w4 ⟨N4, rfl, K4⟩
    clear K3 HW1
    obtain ⟨x4, hx4, k4⟩ := unhide K4
    have HK := hide (unhide HW2 w4 p x4 hx4 k4)
    clear K4 hx4 k4 HW2
    go_wp2_with fail
    refine (unhide HK).mono ?_
    rintro e w5 ⟨N5, rfl, K5⟩
    clear HK
    obtain ⟨x5, y5, hx5, hy5, k5⟩ := unhide K5
    have HK := hide (unhide HW3 w5 p x5 y5 hx5 hy5 k5)
    clear K5 hx5 hy5 k5 HW3
    go_wp2_with fail
    refine (unhide HK).mono ?_
    rintro e w6 ⟨rfl, K6⟩
    clear HK
    obtain ⟨x, y, hx, hy, k6⟩ := unhide K6
    have HK := hide (unhide HR1 w6 p x y hx k6)
    have HX := hide hx
    have HY := hide hy
    clear K6 hx hy k6 HR1
    go_wp2_with fail
    refine (unhide HK).mono ?_
    rintro e w7 ⟨E7, rfl, K7⟩
    clear HK
    have HK := hide (unhide HR2 w7 p x y (unhide HY) (unhide K7))
    clear HR2 HY K7
    go_wp2_with fail
    refine (unhide HK).mono ?_
    rintro e w8 ⟨E8, rfl, K8⟩
    clear HK
    have HFI : Hid (∀ W1, Below w8.heap.size w8 W1 → (Calls Try.prog 22 #[.pointer (some ⟨p, 0, none⟩), .int .i64 1] W1 fun e w' => e = .returned (.int .i64 (rl : Int)) ∧ w' = W1) ∧ Calls Try.prog 11 #[] W1 fun e w' => e = .returned (.bool true) ∧ Below w.heap.size w w') := hide (fun W1 hb => by
      obtain ⟨f1, f2⟩ := unhide HSZ w8 W1 p x y hb (unhide HX) (unhide K8)
      exact ⟨f1, (awake_any W1).mono (fun e w' ⟨g1, g2⟩ => ⟨g1, f2.trans (g2.mono f2.size)⟩)⟩)
    clear HSZ HX K8 HA
    by_cases hd0 : d = []
    · have hSR : S = R := by
        obtain ⟨hr, hwl, hdl, hR, hS, hQ⟩ := unhide HL
        rw [hS, hR, hr, if_pos hd0]
      have hQe : Q = ⟨#[]⟩ := by
        obtain ⟨hr, hwl, hdl, hR, hS, hQ⟩ := unhide HL
        rw [hQ, hd0]
        rfl
      obtain ⟨f1, f2⟩ := unhide HFI w8 (Below.refl _ _)
      have HF1 := hide f1
      have HF2 := hide f2
      subst hSR
      obtain rfl : wl = rl := by omega
      rw [hQe]
      clear hQe hd0 f1 f2 HL hQs HFI
      go_wp2_with fail
      refine (unhide HF1).mono ?_
      rintro e w9 ⟨rfl, hw⟩
      rw [show w9 = w8 from hw]
      clear hw
      go_wp2_with fail
      refine (unhide HF2).mono ?_
      rintro e w9 ⟨rfl, hw⟩
      have HB := hide hw
      clear hw
      go_wp2
      go_ret
      exact ⟨rfl, unhide HB⟩
    · obtain ⟨hr, hwl, hdl, hR, hS, hQ⟩ := unhide HL
      have hne : Q.toList.isEmpty = false := by
        rw [hQ, ByteArray.toList_eq]
        cases d with
        | nil => exact absurd rfl hd0
        | cons _ _ => rfl
      rw [if_neg hd0] at hr
      by_cases hat : a' ≤ wl
      · have h5 : ¬ (wl : Int) < (a' : Int) := by omega
        obtain ⟨en, hen⟩ : ∃ en, en = min (a' + dl) wl := ⟨_, rfl⟩
        have hmin : min ((a' : Int) + (dl : Int)) (wl : Int) = (en : Int) := by omega
        obtain ⟨A1, hA1⟩ : ∃ A1, A1 = BA (was.take a') := ⟨_, rfl⟩
        obtain ⟨C1, hC1⟩ : ∃ C1, C1 = BA (was.drop en) := ⟨_, rfl⟩
        have hexA : S.extract 0 a' = A1 := by rw [hS, hA1]; exact ext_take was a'
        have hexC : S.extract en wl = C1 := by rw [hS, hC1]; exact ext_drop was en wl hwl.symm
        have hAs : A1.size = a' := by rw [hA1, BA_size, List.length_take]; omega
        have hCs : C1.size = wl - en := by rw [hC1, BA_size, List.length_drop]; omega
        have hcat : A1 ++ Q ++ C1 = R := by
          rw [hA1, hQ, hC1, hR, BA_add, BA_add, hr]
          unfold wantL
          have e1 : extL was a' = was := by unfold extL; rw [show a' - was.length = 0 by omega]; simp
          rw [e1]
          congr 1
          congr 1
          by_cases h6 : a' + dl ≤ wl
          · rw [show en = a' + d.length by omega]
          · rw [List.drop_eq_nil_of_le (by omega), List.drop_eq_nil_of_le (by omega)]
        have h6 : (a' : Int) ≤ (wl : Int) := by omega
        have h7 : (en : Int) ≤ (wl : Int) := by omega
        have h8 : (0 : Int) ≤ (en : Int) := by omega
        have h9 : (0 : Int) ≤ (a' : Int) := by omega
        clear HL hr hwl hdl hR hS hQ hA1 hC1 hd0 hen hat
        go_wp2_with fail
        go_quiet (fail)
        go_wp2_with fail
        refine (unhide HFI _ (below_drew _ _)).1.mono ?_
        rintro e w9 ⟨rfl, hw⟩
        rw [show w9 = _ from hw]
        clear hw
        go_wp2_with fail
        refine (unhide HFI _ (below_drew _ _)).2.mono ?_
        rintro e w9 ⟨rfl, hw⟩
        have HB := hide hw
        clear hw
        go_wp2
        go_ret
        exact ⟨rfl, unhide HB⟩
      · have h5 : (wl : Int) < (a' : Int) := by omega
        obtain ⟨zn, hzn⟩ : ∃ zn, zn = a' - wl := ⟨_, rfl⟩
        have hz : (a' : Int) - (wl : Int) = (zn : Int) := by omega
        obtain ⟨zc, mk, cv, _⟩ := zeros_run zn (by omega)
        obtain ⟨Z1, hZ1⟩ : ∃ Z1, Z1 = BA (List.replicate zn 0) := ⟨_, rfl⟩
        have hZs : Z1.size = zn := by rw [hZ1, BA_size, List.length_replicate]
        simp only [← hZ1] at cv
        obtain ⟨E1, hE1⟩ : ∃ E1, S ++ Z1 = E1 := ⟨_, rfl⟩
        have hEL : E1 = BA (extL was a') := by rw [← hE1, hS, hZ1, BA_add]; unfold extL; rw [hzn, hwl]
        have hEl : (extL was a').length = a' := by rw [extL_len]; omega
        have hEs : E1.size = a' := by rw [hEL, BA_size, hEl]
        obtain ⟨A1, hA1⟩ : ∃ A1, A1 = BA ((extL was a').take a') := ⟨_, rfl⟩
        have hexA : E1.extract 0 a' = A1 := by rw [hEL, hA1]; exact ext_take _ a'
        have hAs : A1.size = a' := by rw [hA1, BA_size, List.length_take]; omega
        have hmin : min ((a' : Int) + (dl : Int)) (a' : Int) = (a' : Int) := by omega
        have hcat : A1 ++ Q = R := by
          rw [hA1, hQ, hR, BA_add, hr]
          unfold wantL
          rw [show (extL was a').drop (a' + d.length) = [] from List.drop_eq_nil_of_le (by omega), List.append_nil]
        have h9 : (0 : Int) ≤ (a' : Int) := by omega
        have hzb : zn ≤ 2000 := by omega
        clear HL hr hwl hdl hR hS hQ hA1 hd0 hat hEL hEl hZ1 hzn
        go_wp2_with fail
        go_quiet (fail)
        go_wp2_with fail
        refine (unhide HFI _ (((Below.refl _ _).alloc (Nat.le_refl _) _).trans ((below_drew _ _).mono (by simp)))).1.mono ?_
        rintro e w9 ⟨rfl, hw⟩
        rw [show w9 = _ from hw]
        clear hw
        go_wp2_with fail
        refine (unhide HFI _ (((Below.refl _ _).alloc (Nat.le_refl _) _).trans ((below_drew _ _).mono (by simp)))).2.mono ?_
        rintro e w9 ⟨rfl, hw⟩
        have HB := hide hw
        clear hw
        go_wp2
        go_ret
        exact ⟨rfl, unhide HB⟩

end Go.Proofs.Ytcfhgjlihifmnaa

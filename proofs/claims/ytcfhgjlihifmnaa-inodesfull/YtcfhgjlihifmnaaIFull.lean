/-
  InodesFull: with too few blocks as many bytes are written as there is room for, and then none.
-/
import Derived.Test.YtcfhgjlihifmnaaITxt
namespace Go.Proofs.Ytcfhgjlihifmnaa
open Go.RowKit Go.Maps

def T2 : TB := [some (nd0 1), some (nd0 1)]
theorem fu_make1 : makeN [none, none] 1 = 1 ∧ makeE [none, none] 1 = 0 ∧ makeT [none, none] 1 = [some (nd0 1), none] := ⟨by decide, by decide, rfl⟩
theorem fu_make2 : makeN [some (nd0 1), none] 1 = 2 ∧ makeE [some (nd0 1), none] 1 = 0 ∧ makeT [some (nd0 1), none] 1 = T2 := ⟨by decide, by decide, rfl⟩
theorem T2_used : usedT T2 = 0 := by decide
theorem fu_write {b a : Nat} {d : List UInt8} {N E : Int} {T' : TB} (hb : 1 ≤ b) (hb2 : b ≤ 20) (ha : a ≤ 63) (hd : d.length ≤ 2000) (hd0 : d ≠ []) (h : WrSp T2 (b - usedT T2) 1 (a : Int) d N E T') :
    ∃ n : Nat, N = n ∧ E = 0 ∧ n = min d.length (64 * b - a) ∧ 0 < n ∧ T' = [some (putN (nd0 1) a d n), some (nd0 1)] ∧ usedT T' = (a + n + 63) / 64 ∧ (a + n + 63) / 64 ≤ b := by
  have hx0 : ndAt T2 1 = some (nd0 1) := rfl
  have hdl : 0 < d.length := by cases d with | nil => exact absurd rfl hd0 | cons _ _ => simp
  rw [T2_used] at h
  have hh : (nd0 1).has = fun _ => false := rfl
  cases h with
  | none h => rw [hx0] at h; cases h
  | arg x _ h => omega
  | empty x _ _ h => exact absurd h hd0
  | big x _ h => omega
  | space x at' hx ha2 _ _ hp =>
    rw [hx0] at hx
    injection hx with hx
    subst hx
    obtain rfl : at' = a := by omega
    rcases hp.ends with e | ⟨e, _⟩
    · omega
    · rw [hasP_zero, hh, cnt_no] at e
      omega
  | done x at' n hx ha2 _ _ hn hp =>
    rw [hx0] at hx
    injection hx with hx
    subst hx
    obtain rfl : at' = a := by omega
    have h1 := hp.le
    have h2 := hp.room
    have hmx := hp.max
    have h3 := hp.ends
    rw [hh, cnt_first (by omega) hn hmx, cnt_no] at h2 h3
    have hu : usedT [some (putN (nd0 1) at' d n), some (nd0 1)] = (at' + n + 63) / 64 := by
      show cnt (hasP (fun _ => false) at' n) + (cnt (fun _ => false) + 0) = _
      rw [cnt_first (by omega) hn hmx, cnt_no]
      rfl
    refine ⟨n, rfl, rfl, ?_, hn, rfl, hu, by omega⟩
    rcases h3 with e | ⟨e, _, e3⟩
    · omega
    · rcases e3 with e3 | e3
      · omega
      · omega
theorem datOf_put (x : Nd) (a n : Nat) (d : List UInt8) : ((datOf (putN x a d n)).drop a).take n = d.take n ∨ d.length < n := by
  rcases Nat.lt_or_ge d.length n with h | h
  · exact .inr h
  · refine .inl ?_
    have hs : (putN x a d n).size = max x.size (a + n) := rfl
    apply List.ext_getElem
    · rw [List.length_take, List.length_drop, datOf_len, List.length_take, hs]
      omega
    · intro j h1 h2
      rw [List.length_take] at h2
      simp [datOf, putN]
      rw [if_pos (by omega), List.getElem?_eq_getElem (by omega)]
      rfl
theorem fu_second {b a n : Nat} {d : List UInt8} {N E : Int} {T' T : TB} (hu : usedT T = (a + n + 63) / 64) (hT : T = [some (putN (nd0 1) a d n), some (nd0 1)]) (h : WrSp T (b - usedT T) 2 0 [120] N E T') :
    ((b - usedT T = 0 ∧ E = 20 ∧ N = 0) ∨ ((((b - usedT T : Nat) : Int) == 0) = false ∧ E = 0 ∧ N = 1)) ∧ ndAt T' 1 = some (putN (nd0 1) a d n) := by
  have hx0 : ndAt T 2 = some (nd0 1) := by rw [hT]; rfl
  have hx1 : ndAt T 1 = some (putN (nd0 1) a d n) := by rw [hT]; rfl
  have hh : (nd0 1).has = fun _ => false := rfl
  generalize hf : b - usedT T = f at h ⊢
  cases h with
  | none h => rw [hx0] at h; cases h
  | arg x _ h => omega
  | empty x _ _ h => cases h
  | big x _ h => omega
  | space x at' hx ha2 _ _ hp =>
    rw [hx0] at hx
    injection hx with hx
    subst hx
    rcases hp.ends with e | ⟨e, _⟩
    · simp at e
      omega
    · rw [hasP_zero, hh, cnt_no] at e
      obtain rfl : f = 0 := by omega
      exact ⟨.inl ⟨rfl, rfl, rfl⟩, hx1⟩
  | done x at' m hx ha2 _ _ hn hp =>
    rw [hx0] at hx
    injection hx with hx
    subst hx
    obtain rfl : at' = 0 := by omega
    have h1 := hp.le
    obtain rfl : m = 1 := by simp at h1; omega
    have h2 := hp.room
    rw [hh, cnt_first (by decide) (by decide) (by decide), cnt_no] at h2
    refine ⟨.inr ⟨by simp; omega, rfl, rfl⟩, ?_⟩
    rw [hT]
    rfl
theorem extract_pre (d : List UInt8) (n : Nat) : (BA d).extract 0 n = BA (d.take n) := by
  have := extract_take (BA d) 0 n
  rw [Nat.zero_add] at this
  simpa using this
set_option maxRecDepth 20000 in
set_option maxHeartbeats 1000000 in
theorem full_walk (b a : Int) (d : List UInt8) (w : World) (hbb : -9223372036854775808 ≤ b ∧ b ≤ 9223372036854775807) (hab : -9223372036854775808 ≤ a ∧ a ≤ 9223372036854775807) : Calls Try.prog 7 #[.int .i64 b, .int .i64 a, .string (BA d)] w fun e w' => e = .returned (.bool true) ∧ Below w.heap.size w w' := by
  have HA := hide (awake_any w)
  obtain ⟨S, hS⟩ : ∃ S, S = BA d := ⟨_, rfl⟩
  have hSs : S.size = d.length := by rw [hS]; rfl
  by_cases hbad : b < 1 ∨ 20 < b ∨ a < 0 ∨ 63 < a ∨ 2000 < d.length ∨ d = []
  · have hcase : b < 1 ∨ (¬ b < 1 ∧ 20 < b) ∨ (¬ b < 1 ∧ ¬ 20 < b ∧ a < 0) ∨ (¬ b < 1 ∧ ¬ 20 < b ∧ ¬ a < 0 ∧ 63 < a) ∨ (¬ b < 1 ∧ ¬ 20 < b ∧ ¬ a < 0 ∧ ¬ 63 < a ∧ (2000 : Int) < (d.length : Int)) ∨ (¬ b < 1 ∧ ¬ 20 < b ∧ ¬ a < 0 ∧ ¬ 63 < a ∧ ¬ (2000 : Int) < (d.length : Int) ∧ d = []) := by
      by_cases h1 : b < 1
      · exact .inl h1
      · by_cases h2 : 20 < b
        · exact .inr (.inl ⟨h1, h2⟩)
        · by_cases h3 : a < 0
          · exact .inr (.inr (.inl ⟨h1, h2, h3⟩))
          · by_cases h4 : 63 < a
            · exact .inr (.inr (.inr (.inl ⟨h1, h2, h3, h4⟩)))
            · by_cases h5 : (2000 : Int) < (d.length : Int)
              · exact .inr (.inr (.inr (.inr (.inl ⟨h1, h2, h3, h4, h5⟩))))
              · refine .inr (.inr (.inr (.inr (.inr ⟨h1, h2, h3, h4, h5, ?_⟩))))
                rcases hbad with h | h | h | h | h | h
                · omega
                · omega
                · omega
                · omega
                · omega
                · exact h
    rw [← hS]
    obtain ⟨n, hn⟩ : ∃ n, n = d.length := ⟨_, rfl⟩
    have HE : Hid (d = [] → S = ⟨#[]⟩) := hide (fun h => by rw [hS, h]; rfl)
    rw [← hn] at hcase hSs
    clear hbad hS hn
    rcases hcase with h1 | ⟨h1, h2⟩ | ⟨h1, h2, h3⟩ | ⟨h1, h2, h3, h4⟩ | ⟨h1, h2, h3, h4, h5⟩ | ⟨h1, h2, h3, h4, h5, h6⟩
    case inr.inr.inr.inr.inr =>
      have hSe := unhide HE h6
      rw [hSe]
      clear h5 h6 hSs HE hSe
      go_enter Try.func7, Try.ntmps7
      go_wp2_with fail
      refine (unhide HA).mono ?_
      rintro e w1 ⟨rfl, hw1⟩
      have HB := hide hw1
      clear hw1
      go_wp2
      go_ret
      exact ⟨rfl, unhide HB⟩
    all_goals
      clear HE
      go_enter Try.func7, Try.ntmps7
      go_wp2_with fail
      refine (unhide HA).mono ?_
      rintro e w1 ⟨rfl, hw1⟩
      have HB := hide hw1
      clear hw1
      go_wp2
      go_ret
      exact ⟨rfl, unhide HB⟩
  · have hd0 : d ≠ [] := fun h => hbad (.inr (.inr (.inr (.inr (.inr h)))))
    obtain ⟨b', rfl⟩ : ∃ b' : Nat, b = b' := ⟨b.toNat, by omega⟩
    obtain ⟨a', rfl⟩ : ∃ a' : Nat, a = a' := ⟨a.toNat, by omega⟩
    have h1 : ¬ (b' : Int) < 1 := by omega
    have h2 : ¬ (20 : Int) < (b' : Int) := by omega
    have h3 : ¬ (a' : Int) < 0 := by omega
    have h4 : ¬ (63 : Int) < (a' : Int) := by omega
    have h5 : ¬ (2000 : Int) < (d.length : Int) := by omega
    have hne : S.toList.isEmpty = false := by
      rw [hS, ByteArray.toList_eq]
      cases d with
      | nil => exact absurd rfl hd0
      | cons _ _ => rfl
    have HNW := hide (new_hd 2 b' w w (Below.refl _ _) (by decide) (by decide) (by omega) (by omega))
    have HWR : Hid (∀ W p, Hd w W p T2 b' 0 → Calls Try.prog 14 #[.pointer (some ⟨p, 0, none⟩), .int .i64 1, .int .i64 (a' : Int), .string S] W fun e w' => ∃ n : Nat, e = .returned (.tuple #[.int .i64 (n : Int), .int .i64 0]) ∧ (min (d.length : Int) (64 * (b' : Int) - (a' : Int)) = (n : Int) ∧ S.extract 0 n = BA (d.take n) ∧ n ≤ d.length ∧ 0 < n) ∧ Hid (Hd w w' p [some (putN (nd0 1) a' d n), some (nd0 1)] b' 0 ∧ usedT [some (putN (nd0 1) a' d n), some (nd0 1)] = (a' + n + 63) / 64)) := hide (fun W p H => by
      rw [hS]
      refine (write_hd H 1 (a' : Int) d (by decide) (by omega) (by omega)).mono ?_
      rintro e w' ⟨N, E, h6, T', hT, hH⟩
      obtain ⟨n, rfl, rfl, hn, hn0, rfl, hu, hub⟩ := fu_write (by omega) (by omega) (by omega) (by omega) hd0 hT
      exact ⟨n, h6, ⟨by omega, extract_pre d n, by omega, hn0⟩, hide ⟨hH, hu⟩⟩)
    have HRD : Hid (∀ W p n, n ≤ d.length → Hd w W p [some (putN (nd0 1) a' d n), some (nd0 1)] b' 0 → Calls Try.prog 24 #[.pointer (some ⟨p, 0, none⟩), .int .i64 1, .int .i64 (a' : Int), .int .i64 (n : Int)] W fun e w' => e = .returned (.tuple #[.string (BA (d.take n)), .int .i64 0]) ∧ Hid (Hd w w' p [some (putN (nd0 1) a' d n), some (nd0 1)] b' 0)) := hide (fun W p n hn H => by
      refine (read_hd H 1 (a' : Int) (n : Int) (by decide) (by omega)).mono ?_
      rintro e w' ⟨h6, h7⟩
      have e1 : rdT [some (putN (nd0 1) a' d n), some (nd0 1)] 1 (a' : Int) (n : Int) = d.take n := by
        show (if (a' : Int) < 0 ∨ (n : Int) < 0 then [] else ((datOf (putN (nd0 1) a' d n)).drop ((a' : Int)).toNat).take ((n : Int)).toNat) = _
        rw [if_neg (by omega), show ((a' : Int)).toNat = a' by omega, show ((n : Int)).toNat = n by omega]
        rcases datOf_put (nd0 1) a' n d with h | h
        · exact h
        · omega
      have e2 : rdE [some (putN (nd0 1) a' d n), some (nd0 1)] 1 (a' : Int) (n : Int) = 0 := by
        show (if (a' : Int) < 0 ∨ (n : Int) < 0 then (1 : Int) else 0) = 0
        rw [if_neg (by omega)]
      rw [e1, e2] at h6
      exact ⟨h6, hide h7.1⟩)
    have HW2 : Hid (∀ W p n, usedT [some (putN (nd0 1) a' d n), some (nd0 1)] = (a' + n + 63) / 64 → Hd w W p [some (putN (nd0 1) a' d n), some (nd0 1)] b' 0 → Calls Try.prog 14 #[.pointer (some ⟨p, 0, none⟩), .int .i64 2, .int .i64 0, .string ⟨#[120]⟩] W fun e w' => ∃ N E : Int, e = .returned (.tuple #[.int .i64 N, .int .i64 E]) ∧ Hid (((b' - usedT [some (putN (nd0 1) a' d n), some (nd0 1)] = 0 ∧ E = 20 ∧ N = 0) ∨ ((((b' - usedT [some (putN (nd0 1) a' d n), some (nd0 1)] : Nat) : Int) == 0) = false ∧ E = 0 ∧ N = 1)) ∧ ∃ T', ndAt T' 1 = some (putN (nd0 1) a' d n) ∧ Hd w w' p T' b' 0)) := hide (fun W p n hu H => by
      refine (write_hd H 2 0 [120] (by decide) (by decide) (by decide)).mono ?_
      rintro e w' ⟨N, E, h6, T', hT, hH⟩
      obtain ⟨h7, h8⟩ := fu_second hu rfl hT
      exact ⟨N, E, h6, hide ⟨h7, T', h8, hH⟩⟩)
    have HSZ : Hid (∀ W p n T', ndAt T' 1 = some (putN (nd0 1) a' d n) → Hd w W p T' b' 0 → Calls Try.prog 22 #[.pointer (some ⟨p, 0, none⟩), .int .i64 1] W fun e w' => e = .returned (.int .i64 ((a' : Int) + (n : Int))) ∧ w' = W) := hide (fun W p n T' h H => by
      have := size_hd H 1 (by decide)
      rw [h, show sizeOfN (some (putN (nd0 1) a' d n)) = a' + n by show Nat.max 0 (a' + n) = _; exact Nat.max_eq_right (Nat.zero_le _)] at this
      rw [show ((a' : Int) + (n : Int)) = ((a' + n : Nat) : Int) by omega]
      exact this)
    rw [← hS]
    obtain ⟨dl, hdl⟩ : ∃ dl, dl = d.length := ⟨_, rfl⟩
    rw [← hdl] at hSs h5 HWR HRD
    clear hbad hd0 hS hdl hbb hab
    go_enter Try.func7, Try.ntmps7
    go_wp2_with fail
    refine (unhide HNW).mono ?_
    rintro e w1 ⟨p, rfl, k1, _⟩
    have K1 : Hid (Hd w w1 p [none, none] b' 0) := hide k1
    clear k1 HNW
    go_wp2_with fail
    refine (make_hd (unhide K1) 1).mono ?_
    rw [fu_make1.1, fu_make1.2.1, fu_make1.2.2]
    rintro e w2 ⟨rfl, K2⟩
    clear K1
    go_wp2_with fail
    refine (make_hd (unhide K2) 1).mono ?_
    rw [fu_make2.1, fu_make2.2.1, fu_make2.2.2]
    rintro e w3 ⟨rfl, K3⟩
    clear K2
    go_wp2_with fail
    refine (unhide HWR w3 p (unhide K3)).mono ?_
    rintro e w4 ⟨n, rfl, ⟨hmin, hex, hnd, hn0⟩, K4⟩
    clear K3 HWR
    go_wp2_with fail
    refine (unhide HRD w4 p n hnd (unhide K4).1).mono ?_
    rintro e w5 ⟨rfl, K5⟩
    have HU : Hid (usedT [some (putN (nd0 1) a' d n), some (nd0 1)] = (a' + n + 63) / 64) := hide (unhide K4).2
    clear K4 HRD
    go_wp2_with fail
    refine (free_hd (unhide K5)).mono ?_
    rintro e w6 ⟨rfl, hw⟩
    rw [show w6 = w5 from hw]
    clear hw
    go_wp2_with fail
    refine (unhide HW2 w5 p n (unhide HU) (unhide K5)).mono ?_
    rintro e w6 ⟨N, E, rfl, K6⟩
    obtain ⟨hcase, T', hT', hH⟩ := unhide K6
    have HS2 := hide (unhide HSZ w6 p n T' hT' hH)
    have HB6 := hide hH.bel
    have HA6 := hide (awake_any w6)
    clear K6 K5 HW2 HSZ hT' hH HU
    obtain ⟨fr, hfr⟩ : ∃ fr, fr = b' - usedT [some (putN (nd0 1) a' d n), some (nd0 1)] := ⟨_, rfl⟩
    obtain ⟨ft, hft⟩ : ∃ ft, ft = freeT [some (putN (nd0 1) a' d n), some (nd0 1)] := ⟨_, rfl⟩
    rw [← hfr] at hcase ⊢
    rw [← hft]
    have hn2 : n ≤ 2000 := by omega
    obtain ⟨Q, hQ⟩ : ∃ Q, Q = BA (d.take n) := ⟨_, rfl⟩
    rw [← hQ] at hex ⊢
    clear hfr hft hQ
    rcases hcase with ⟨rfl, rfl, rfl⟩ | ⟨hf0, rfl, rfl⟩
    all_goals
      go_wp2_with fail
      refine (unhide HS2).mono ?_
      rintro e w7 ⟨rfl, hw⟩
      rw [show w7 = w6 from hw]
      clear hw
      go_wp2_with fail
      refine (unhide HA6).mono ?_
      rintro e w7 ⟨rfl, hw⟩
      have HB7 := hide ((unhide HB6).trans (hw.mono (unhide HB6).size))
      clear hw
      go_wp2
      go_ret
      exact ⟨rfl, unhide HB7⟩

end Go.Proofs.Ytcfhgjlihifmnaa

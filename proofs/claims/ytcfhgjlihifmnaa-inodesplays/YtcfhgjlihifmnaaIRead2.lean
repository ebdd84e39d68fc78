/-
  bytes; Read.
-/
import Derived.Test.YtcfhgjlihifmnaaIRead
namespace Go.Proofs.Ytcfhgjlihifmnaa
open Go.RowKit Go.Maps

theorem TL.below {w w' : World} {p : Nat} {L : Lay} {T : TB} (H : TL w p L T) (hb : Below w.heap.size w w') : TL w' p L T :=
  H.grownS (S := fun _ => False) (grownS_of_below hb) (H.lt.mono (fun _ _ e => e))

set_option maxRecDepth 20000 in
set_option maxHeartbeats 1000000 in
theorem bytes_none (p q : Nat) (a n : Int) (w : World) (hn : n ≤ 0) : Calls Try.prog 46 #[.pointer (some ⟨p, 0, none⟩), .pointer (some ⟨q, 0, none⟩), .int .i64 a, .int .i64 n] w fun e w' => e = .returned (.string (BA [])) ∧ Below w.heap.size w w' := by
  have hn2 : ¬ 0 < n := by omega
  have HS : Hid (Calls Try.prog 63 #[.pointer (some ⟨w.heap.size, 0, none⟩)] (w.alloc (.cells #[.pointer none, .slice none 0 0] 102)) fun e w' => e = .returned (.string (BA [])) ∧ Below w.heap.size w w') := hide (by
    have hb : Below w.heap.size w (w.alloc (.cells #[.pointer none, .slice none 0 0] 102)) := (Below.refl _ _).alloc (Nat.le_refl _) _
    refine (Try.Builder_String_any w.heap.size w.heap.size [] _ (Lib.fresh_isBuilder _ _ w) hb.size).mono ?_
    rintro e w' ⟨h1, h2⟩
    exact ⟨h1, hb.trans h2⟩)
  go_enter Try.func46, Try.ntmps46
  go_wp2_with fail
  refine wp_loop_rounds 1 ?_
  rw [rounds_succ]
  go_wp2_with fail
  refine (unhide HS).mono ?_
  rintro e w1 ⟨rfl, h1⟩
  have H1 := hide h1
  clear h1
  go_wp2
  go_ret
  exact ⟨rfl, unhide H1⟩
set_option maxRecDepth 20000 in
set_option maxHeartbeats 400000 in
theorem bytes_any {w : World} {p : Nat} {L : Lay} {T : TB} (H : TL w p L T) {i : Nat} {x : Nd} (hi : T[i]? = some (some x)) (a n : Nat) (hn : a + n ≤ 4096) :
    Calls Try.prog 46 #[.pointer (some ⟨p, 0, none⟩), .pointer (some ⟨L.q i, 0, none⟩), .int .i64 (a : Int), .int .i64 (n : Int)] w fun e w' => e = .returned (.string (BA (bytsOf x a n))) ∧ Below w.heap.size w w' := by
  have HS0 : Hid (Lib.IsBuilder 102 5 w.heap.size w.heap.size (Lib.byteCells (bytsOf x a 0)) (w.alloc (.cells #[.pointer none, .slice none 0 0] 102)) ∧ Below w.heap.size w (w.alloc (.cells #[.pointer none, .slice none 0 0] 102))) := hide ⟨Lib.fresh_isBuilder _ _ w, (Below.refl _ _).alloc (Nat.le_refl _) _⟩
  have HBO : Hid (∀ (wr : World) (part fr k : Nat), Below w.heap.size w wr → part ≤ 100000 → fr + k ≤ 64 → Calls Try.prog 62 #[.pointer (some ⟨p, 0, none⟩), .pointer (some ⟨L.q i, 0, none⟩), .int .i64 (part : Int), .int .i64 (fr : Int), .int .i64 (k : Int)] wr fun e w' => e = .returned (.string (BA (bytsOf x (64 * part + fr) k))) ∧ Below wr.heap.size wr w') := hide (fun wr part fr k hb h1 h2 => bytesOf_any (H.below hb) hi part fr k h1 h2)
  obtain ⟨q, hq⟩ : ∃ q, q = L.q i := ⟨_, rfl⟩
  rw [← hq] at HBO ⊢
  clear hq H hi
  go_enter Try.func46, Try.ntmps46
  go_wp2_with fail
  go_loopw [2, 3] (fun u v wr => ∃ d r : Nat, u = .int .i64 ((a + d : Nat) : Int) ∧ v = .int .i64 (r : Int) ∧ d + r = n ∧ Hid (Lib.IsBuilder 102 5 w.heap.size w.heap.size (Lib.byteCells (bytsOf x a d)) wr ∧ Below w.heap.size w wr)) (fun _ v _ => (intOf v).toNat)
  case atStart => exact ⟨0, n, rfl, rfl, by omega, HS0⟩
  case round =>
    clear HS0
    obtain ⟨d, r, rfl, rfl, hdr, HS⟩ := hrel
    by_cases hr : 0 < r
    · have HPL := hide (place_any (a + d) wr (by omega))
      have hr1 : (0 : Int) < (r : Int) := by omega
      obtain ⟨k, hk⟩ : ∃ k, k = min r (64 - (a + d) % 64) := ⟨_, rfl⟩
      have hk1 : k ≤ r := by omega
      have hr4 : r ≤ 4096 := by omega
      have hk0 : 0 < k := by omega
      have hk2 : k + (a + d) % 64 ≤ 64 := by omega
      have HB := hide (unhide HBO wr ((a + d) / 64) ((a + d) % 64) k (unhide HS).2 (by omega) (by omega))
      rw [show 64 * ((a + d) / 64) + (a + d) % 64 = a + d by omega] at HB
      have HW : Hid (∀ w1, Below wr.heap.size wr w1 → Calls Try.prog 61 #[.pointer (some ⟨w.heap.size, 0, none⟩), .string (BA (bytsOf x (a + d) k))] w1 fun e w' => e = .returned (.tuple #[.int .i64 ((BA (bytsOf x (a + d) k)).size : Int), .nilIface]) ∧ Hid (Lib.IsBuilder 102 5 w.heap.size w.heap.size (Lib.byteCells (bytsOf x a (d + k))) w' ∧ Below w.heap.size w w')) := hide (fun w1 hb => by
        have hsz := (unhide HS).2.size
        refine (bwrite_any w.heap.size w.heap.size (bytsOf x a d) (BA (bytsOf x (a + d) k)) w1 (bld_keep (unhide HS).1 hb) (by simp [bytsOf_len]; omega) (by have := hb.size; omega)).mono ?_
        rintro e w' ⟨h1, h2, h3⟩
        refine ⟨h1, hide ⟨?_, (unhide HS).2.trans ((hb.mono hsz).trans h3)⟩⟩
        rw [bytsOf_app]
        exact h2)
      obtain ⟨pt, hpt⟩ : ∃ pt, pt = (a + d) / 64 := ⟨_, rfl⟩
      obtain ⟨fr, hfr⟩ : ∃ fr, fr = (a + d) % 64 := ⟨_, rfl⟩
      rw [← hpt, ← hfr] at HPL HB
      rw [← hfr] at hk hk2
      have hmin : min (r : Int) (64 - (fr : Int)) = (k : Int) := by omega
      have hfr64 : fr < 64 := by omega
      have had : a + d ≤ 4096 := by omega
      obtain ⟨ad, had2⟩ : ∃ ad, ad = a + d := ⟨_, rfl⟩
      rw [← had2] at HPL HB HW had
      have HAD := hide had2
      have HDR := hide hdr
      have HK := hide hk
      clear hpt hfr had2 HS HBO hdr hk hr hn
      rw [← unhide HAD]
      go_wp2_with fail
      refine (unhide HPL).mono ?_
      rintro e w1 ⟨rfl, hw1⟩
      rw [show w1 = wr from hw1]
      clear hw1
      go_wp2_with fail
      refine (unhide HB).mono ?_
      rintro e w1 ⟨rfl, h1⟩
      have H1 := hide h1
      clear h1
      go_wp2_with fail
      refine (unhide HW w1 (unhide H1)).mono ?_
      rintro e w2 ⟨rfl, H2⟩
      go_wp2
      go_roundw
      case rel => exact ⟨d + k, r - k, by have := unhide HAD; go_num, by go_num, by have := unhide HDR; omega, H2⟩
      case measure => simp [intOf]; omega
    · have hr1 : ¬ (0 : Int) < (r : Int) := by omega
      have HSS : Hid (Calls Try.prog 63 #[.pointer (some ⟨w.heap.size, 0, none⟩)] wr fun e w' => e = .returned (.string (BA (bytsOf x a n))) ∧ Below w.heap.size w w') := hide (by
        obtain rfl : d = n := by omega
        refine (Try.Builder_String_any w.heap.size w.heap.size _ _ (unhide HS).1 (unhide HS).2.size).mono ?_
        rintro e w' ⟨h1, h2⟩
        exact ⟨h1, (unhide HS).2.trans h2⟩)
      clear HS HBO hdr hr hn
      go_wp2_with fail
      refine (unhide HSS).mono ?_
      rintro e w1 ⟨rfl, h1⟩
      have H1 := hide h1
      clear h1
      go_wp2
      go_ret
      exact ⟨rfl, unhide H1⟩

set_option maxRecDepth 20000 in
theorem tread_nil (i a n : Int) (w : World) : Calls Try.prog 24 #[.pointer none, .int .i64 i, .int .i64 a, .int .i64 n] w fun e w' => e = .returned (.tuple #[.string ⟨#[]⟩, .int .i64 2]) ∧ w' = w := by
  go_enter Try.func24, Try.ntmps24
  go_wp2_with fail
  refine (tfind_nil i w).mono ?_
  rintro e w1 ⟨rfl, hw1⟩
  rw [show w1 = w from hw1]
  clear hw1
  go_wp2
  go_ret2
  exact ⟨rfl, rfl⟩

set_option maxRecDepth 20000 in
set_option maxHeartbeats 1000000 in
theorem tread_any {w : World} {p nb : Nat} {X : Nat → Prop} {T : TB} (H : TAt w p X T nb) (hgd : ∀ (k : Nat) (x : Nd), T[k]? = some (some x) → x.size ≤ 4096) (i a n : Int) (hb : -9223372036854775808 ≤ i ∧ i ≤ 9223372036854775807) (ha : a ≤ 9223372036854775807) : Calls Try.prog 24 #[.pointer (some ⟨p, 0, none⟩), .int .i64 i, .int .i64 a, .int .i64 n] w fun e w' => e = .returned (.tuple #[.string (BA (rdT T i a n)), .int .i64 (rdE T i a n)]) ∧ Below w.heap.size w w' := by
  obtain ⟨L, HL, hin, hnb⟩ := H
  unfold rdT rdE
  cases hx : ndAt T i with
  | none =>
    have HF := hide (tfind_none HL hx hb)
    clear HL hx hin
    go_enter Try.func24, Try.ntmps24
    go_wp2_with fail
    refine (unhide HF).mono ?_
    rintro e w1 ⟨rfl, hw1⟩
    rw [show w1 = w from hw1]
    clear hw1
    go_wp2
    go_ret2
    exact ⟨rfl, Below.refl _ _⟩
  | some x =>
    obtain ⟨k, rfl, hk, _⟩ := ndAt_some hx
    have HF := hide (tfind_some HL hk)
    dsimp only
    by_cases h1 : a < 0
    · rw [if_pos (.inl h1), if_pos (.inl h1)]
      obtain ⟨q, hq⟩ : ∃ q, q = L.q k := ⟨_, rfl⟩
      rw [← hq] at HF
      clear HL hx hin hq hk hgd
      go_enter Try.func24, Try.ntmps24
      go_wp2_with fail
      refine (unhide HF).mono ?_
      rintro e w1 ⟨rfl, hw1⟩
      rw [show w1 = w from hw1]
      clear hw1
      go_wp2
      go_ret2
      exact ⟨rfl, Below.refl _ _⟩
    · by_cases h2 : n < 0
      · rw [if_pos (.inr h2), if_pos (.inr h2)]
        obtain ⟨q, hq⟩ : ∃ q, q = L.q k := ⟨_, rfl⟩
        rw [← hq] at HF
        clear HL hx hin hq hk hgd
        go_enter Try.func24, Try.ntmps24
        go_wp2_with fail
        refine (unhide HF).mono ?_
        rintro e w1 ⟨rfl, hw1⟩
        rw [show w1 = w from hw1]
        clear hw1
        go_wp2
        go_ret2
        exact ⟨rfl, Below.refl _ _⟩
      · rw [if_neg (by omega), if_neg (by omega)]
        obtain ⟨at', rfl⟩ : ∃ at' : Nat, a = at' := ⟨a.toNat, by omega⟩
        obtain ⟨n', rfl⟩ : ∃ n' : Nat, n = n' := ⟨n.toNat, by omega⟩
        have hsz := hgd k x hk
        have c := (HL.node k x hk).blk.cell 3 rfl
        change _ = some (Value.int .i64 (x.size : Int)) at c
        obtain ⟨r, hr⟩ : ∃ r : Int, min (n' : Int) ((x.size : Int) - (at' : Int)) = r := ⟨_, rfl⟩
        have HB : Hid (Calls Try.prog 46 #[.pointer (some ⟨p, 0, none⟩), .pointer (some ⟨L.q k, 0, none⟩), .int .i64 (at' : Int), .int .i64 r] w fun e w' => e = .returned (.string (BA (((datOf x).drop at').take n'))) ∧ Below w.heap.size w w') := hide (by
          by_cases h0 : r ≤ 0
          · have e : ((datOf x).drop at').take n' = [] := by
              apply List.eq_nil_of_length_eq_zero
              rw [List.length_take, List.length_drop, datOf_len]
              omega
            rw [e]
            exact bytes_none p (L.q k) at' r w h0
          · obtain ⟨m, rfl⟩ : ∃ m : Nat, r = m := ⟨r.toNat, by omega⟩
            have e : ((datOf x).drop at').take n' = bytsOf x at' m := by
              apply List.ext_getElem
              · rw [List.length_take, List.length_drop, datOf_len, bytsOf_len]
                omega
              · intro j g1 g2
                rw [bytsOf_len] at g2
                simp [datOf, bytsOf]
            rw [e]
            exact bytes_any HL hk at' m (by omega))
        simp only [Int.toNat_natCast]
        obtain ⟨q, hq⟩ : ∃ q, q = L.q k := ⟨_, rfl⟩
        rw [← hq] at HF HB c
        obtain ⟨sz, hsz2⟩ : ∃ sz, sz = x.size := ⟨_, rfl⟩
        rw [← hsz2] at c hr hsz
        clear HL hx hin hq hk hgd hsz2
        go_enter Try.func24, Try.ntmps24
        go_wp2_with fail
        refine (unhide HF).mono ?_
        rintro e w1 ⟨rfl, hw1⟩
        rw [show w1 = w from hw1]
        clear hw1
        go_wp2_with fail
        refine (unhide HB).mono ?_
        rintro e w1 ⟨rfl, h3⟩
        have H3 := hide h3
        clear h3
        go_wp2
        go_ret2
        exact ⟨rfl, unhide H3⟩

end Go.Proofs.Ytcfhgjlihifmnaa

/-
  zeros, bytesOf, bytes; Read.
  bytes; Read.
-/
import Derived.Test.YtemologkibcdoaaGreatDoorM07
import Derived.Test.YtemologkibcdoaaGreatDoorM06
import Derived.Test.YtemologkibcdoaaGreatDoorM08

/- zeros, bytesOf, bytes; Read. -/
namespace Go.Proofs.YtemologkibcdoaaGreatDoor
open Go.RowKit Go.Maps

def zerosL (n : Nat) : List UInt8 := List.replicate n 0
theorem repeat_zero : ∀ n, Lib.repeatL [0] n = zerosL n
  | 0 => rfl
  | n + 1 => by
    show [0] ++ Lib.repeatL [0] n = List.replicate (n + 1) 0
    rw [repeat_zero n, List.replicate_succ]
    rfl
set_option maxRecDepth 20000 in
theorem zeros_any (n : Nat) (w : World) (hn : n ≤ 100000) : Calls Tryz.prog 120 #[.int .i64 (n : Int)] w fun e w' => e = .returned (.string (BA (zerosL n))) ∧ Below w.heap.size w w' := by
  have HR := hide (Tryz.strings_Repeat ⟨#[0]⟩ n w (by omega) (by show 1 * n ≤ _; omega))
  rw [show (⟨#[0]⟩ : ByteArray).data.toList = [0] from rfl, repeat_zero] at HR
  go_enter Tryz.func120, Tryz.ntmps120
  go_wp2_with fail
  refine (unhide HR).mono ?_
  rintro e w1 ⟨rfl, h1⟩
  have H1 := hide h1
  clear h1
  go_wp2
  go_ret
  exact ⟨rfl, unhide H1⟩
/-- n bytes of a node from a on. -/
def bytsOf (x : Nd) (a n : Nat) : List UInt8 := (List.range n).map (fun j => x.byt (a + j))
theorem bytsOf_len (x : Nd) (a n : Nat) : (bytsOf x a n).length = n := by simp [bytsOf]
theorem bytsOf_app (x : Nd) (a n m : Nat) : bytsOf x a (n + m) = bytsOf x a n ++ bytsOf x (a + n) m := by
  unfold bytsOf
  rw [List.range_add, List.map_append, List.map_map]
  congr 1
  apply List.map_congr_left
  intro j _
  show x.byt (a + (n + j)) = x.byt (a + n + j)
  rw [Nat.add_assoc]
theorem zeroI (w : World) : (zeroValue 3).run Tryz.prog w = .ok (.int .i64 0) w := by kernel_rfl
set_option maxRecDepth 20000 in
set_option maxHeartbeats 1000000 in
theorem bytesOf_any {w : World} {p : Nat} {L : Lay} {T : TB} (H : TL w p L T) {i : Nat} {x : Nd} (hi : T[i]? = some (some x)) (part fr n : Nat) (hp : part ≤ 100000) (hf : fr + n ≤ 64) :
    Calls Tryz.prog 93 #[.pointer (some ⟨p, 0, none⟩), .pointer (some ⟨L.q i, 0, none⟩), .int .i64 (part : Int), .int .i64 (fr : Int), .int .i64 (n : Int)] w fun e w' => e = .returned (.string (BA (bytsOf x (64 * part + fr) n))) ∧ Below w.heap.size w w' := by
  obtain ⟨D, hD, hR⟩ := (H.node i x hi).own
  have cm : w.cell? ⟨L.q i, 4, none⟩ = some (.map (some (L.m i))) := (H.node i x hi).blk.cell 4 rfl
  have cs : w.cell? ⟨p, 1, none⟩ = some (.pointer (some ⟨L.s, 0, none⟩)) := H.tab.cell 1 rfl
  have hbyt := H.byte i x hi
  have hkey := keyI (a := (part : Int)) (by simp [Lit.wf, IntKind.min, IntKind.max, IntKind.signed, IntKind.bits]; omega)
  obtain ⟨m, hm⟩ : ∃ m, m = L.m i := ⟨_, rfl⟩
  obtain ⟨q, hq⟩ : ∃ q, q = L.q i := ⟨_, rfl⟩
  obtain ⟨s, hs⟩ : ∃ s, s = L.s := ⟨_, rfl⟩
  rw [← hm] at hD cm
  rw [← hq] at cm ⊢
  rw [← hs] at cs
  have hh := hR.has (part : Int)
  rw [show ((part : Int)).toNat = part by omega] at hh
  cases hc : L.pf i part with
  | none =>
    have hh2 : Maps.has D (.int .i64 (part : Int)) = false := by rw [hh]; unfold isS; rw [hc]; simp
    have HZ := hide (zeros_any n w (by omega))
    have e : zerosL n = bytsOf x (64 * part + fr) n := by
      unfold zerosL bytsOf
      apply List.ext_getElem
      · simp
      · intro j h1 h2
        simp at h1
        simp
        rw [hbyt]
        unfold byteOf
        rw [show (64 * part + fr + j) / 64 = part by omega, hc]
    rw [e] at HZ
    obtain ⟨hb, hhb⟩ : ∃ hb, hb = Maps.has D (.int .i64 (part : Int)) := ⟨_, rfl⟩
    rw [hh2] at hhb
    have HD := hide hD
    have HK := hide hkey
    have HH := hide hh2
    clear hbyt H hi hR hh hm hq hs hc hD hkey hh2 hhb e
    go_enter Tryz.func93, Tryz.ntmps93
    go_wp2_with (first
      | (at_lookup; refine wpList_lookup_own_ok_int _ rfl _ _ 153 rfl 3 3 .i64 lawI Tryz.underlying153 Tryz.underlying3 (zeroI _) m _ _ rfl (unhide HD) _ _ rfl (unhide HK) ?_; intro c hat hwc; rw [unhide HH]; have HC := hide hat; clear hat)
      | fail)
    refine (unhide HZ).mono ?_
    rintro e w1 ⟨rfl, h1⟩
    have H1 := hide h1
    clear h1
    go_wp2
    go_ret
    exact ⟨rfl, unhide H1⟩
  | some b =>
    have hh2 : Maps.has D (.int .i64 (part : Int)) = true := by rw [hh]; unfold isS; rw [hc]; simp
    have hat0 := hR.at' part b hc (.lit (.int .i64 0))
    obtain ⟨y, hy, hyn⟩ := H.part i x hi part b hc
    have hyl := H.store.wf.len hy hyn
    have hbl := (List.getElem?_eq_some_iff.1 hy).1
    have hmx := H.store.wf.max
    have HRD := hide (read_any w L.s L.gs L.hs L.l ((b : Int) + 1) (fr : Int) (n : Int) H.store (by omega) (by omega))
    have e : readT L.l ((b : Int) + 1) fr n = bytsOf x (64 * part + fr) n := by
      unfold readT
      rw [tkn_of hy, show (!y.isEmpty) = true by cases y with | nil => exact absurd rfl hyn | cons _ _ => rfl, show inB (fr : Int) (n : Int) = true by simp [inB]; omega, show ((b : Int) + 1 - 1).toNat = b by omega]
      simp only [Bool.and_self, if_true]
      rw [List.getD_eq_getElem?_getD, hy]
      show ((y.drop fr).take n) = _
      unfold bytsOf
      apply List.ext_getElem
      · simp; omega
      · intro j h1 h2
        simp at h1 h2 ⊢
        rw [hbyt]
        unfold byteOf
        rw [show (64 * part + fr + j) / 64 = part by omega, hc, show (64 * part + fr + j) % 64 = fr + j by omega]
        show _ = bAt L.l b (fr + j)
        rw [bAt_of hy, List.getD_eq_getElem?_getD, List.getElem?_eq_getElem (by omega)]
        rfl
    rw [show ((fr : Int)) = ((fr : Nat) : Int) from rfl] at HRD
    rw [e] at HRD
    rw [← hs] at HRD
    obtain ⟨E, hE⟩ : ∃ E, E = readE L.l ((b : Int) + 1) fr n := ⟨_, rfl⟩
    rw [← hE] at HRD
    have HD := hide hD
    have HK := hide hkey
    have HH := hide hh2
    have HA := hide hat0
    clear hbyt H hi hR hh hm hq hs hc hD hkey hh2 hat0 e hy hyn hyl hE
    go_enter Tryz.func93, Tryz.ntmps93
    go_wp2_with (first
      | (at_lookup; refine wpList_lookup_own_ok_int _ rfl _ _ 153 rfl 3 3 .i64 lawI Tryz.underlying153 Tryz.underlying3 (zeroI _) m _ _ rfl (unhide HD) _ _ rfl (unhide HK) ?_; intro c hat hwc; rw [unhide HH]; obtain rfl : c = (b : Int) + 1 := (by rw [unhide HA] at hat; injection hat with hat; injection hat with _ hat; exact hat.symm); clear hat hwc)
      | fail)
    refine (unhide HRD).mono ?_
    rintro e w1 ⟨rfl, hw1⟩
    rw [show w1 = w from hw1]
    clear hw1
    go_wp2
    go_ret
    exact ⟨rfl, Below.refl _ _⟩

end Go.Proofs.YtemologkibcdoaaGreatDoor

/- bytes; Read. -/
namespace Go.Proofs.YtemologkibcdoaaGreatDoor
open Go.RowKit Go.Maps

theorem TL.below {w w' : World} {p : Nat} {L : Lay} {T : TB} (H : TL w p L T) (hb : Below w.heap.size w w') : TL w' p L T :=
  H.grownS (S := fun _ => False) (grownS_of_below hb) (H.lt.mono (fun _ _ e => e))

set_option maxRecDepth 20000 in
set_option maxHeartbeats 1000000 in
theorem bytes_none (p q : Nat) (a n : Int) (w : World) (hn : n ≤ 0) : Calls Tryz.prog 68 #[.pointer (some ⟨p, 0, none⟩), .pointer (some ⟨q, 0, none⟩), .int .i64 a, .int .i64 n] w fun e w' => e = .returned (.string (BA [])) ∧ Below w.heap.size w w' := by
  have hn2 : ¬ 0 < n := by omega
  have HS : Hid (Calls Tryz.prog 49 #[.pointer (some ⟨w.heap.size, 0, none⟩)] (w.alloc (.cells #[.pointer none, .slice none 0 0] 111)) fun e w' => e = .returned (.string (BA [])) ∧ Below w.heap.size w w') := hide (by
    have hb : Below w.heap.size w (w.alloc (.cells #[.pointer none, .slice none 0 0] 111)) := (Below.refl _ _).alloc (Nat.le_refl _) _
    refine (Tryz.Builder_String_any w.heap.size w.heap.size [] _ (Lib.fresh_isBuilder _ _ w) hb.size).mono ?_
    rintro e w' ⟨h1, h2⟩
    exact ⟨h1, hb.trans h2⟩)
  go_enter Tryz.func68, Tryz.ntmps68
  go_wp2_with fail
  refine wp_loop_rounds 1 ?_
  rw [rounds_succ]
  go_wp2_with fail
  refine (unhide HS).mono ?_
  rintro e w1 ⟨rfl, h1⟩
  have H1 := hide h1
  clear h1
  go_wp2
  go_ret
  exact ⟨rfl, unhide H1⟩
set_option maxRecDepth 20000 in
set_option maxHeartbeats 400000 in
theorem bytes_any {w : World} {p : Nat} {L : Lay} {T : TB} (H : TL w p L T) {i : Nat} {x : Nd} (hi : T[i]? = some (some x)) (a n : Nat) (hn : a + n ≤ 4096) :
    Calls Tryz.prog 68 #[.pointer (some ⟨p, 0, none⟩), .pointer (some ⟨L.q i, 0, none⟩), .int .i64 (a : Int), .int .i64 (n : Int)] w fun e w' => e = .returned (.string (BA (bytsOf x a n))) ∧ Below w.heap.size w w' := by
  have HS0 : Hid (Lib.IsBuilder 111 5 w.heap.size w.heap.size (Lib.byteCells (bytsOf x a 0)) (w.alloc (.cells #[.pointer none, .slice none 0 0] 111)) ∧ Below w.heap.size w (w.alloc (.cells #[.pointer none, .slice none 0 0] 111))) := hide ⟨Lib.fresh_isBuilder _ _ w, (Below.refl _ _).alloc (Nat.le_refl _) _⟩
  have HBO : Hid (∀ (wr : World) (part fr k : Nat), Below w.heap.size w wr → part ≤ 100000 → fr + k ≤ 64 → Calls Tryz.prog 93 #[.pointer (some ⟨p, 0, none⟩), .pointer (some ⟨L.q i, 0, none⟩), .int .i64 (part : Int), .int .i64 (fr : Int), .int .i64 (k : Int)] wr fun e w' => e = .returned (.string (BA (bytsOf x (64 * part + fr) k))) ∧ Below wr.heap.size wr w') := hide (fun wr part fr k hb h1 h2 => bytesOf_any (H.below hb) hi part fr k h1 h2)
  obtain ⟨q, hq⟩ : ∃ q, q = L.q i := ⟨_, rfl⟩
  rw [← hq] at HBO ⊢
  clear hq H hi
  go_enter Tryz.func68, Tryz.ntmps68
  go_wp2_with fail
  go_loopw [2, 3] (fun u v wr => ∃ d r : Nat, u = .int .i64 ((a + d : Nat) : Int) ∧ v = .int .i64 (r : Int) ∧ d + r = n ∧ Hid (Lib.IsBuilder 111 5 w.heap.size w.heap.size (Lib.byteCells (bytsOf x a d)) wr ∧ Below w.heap.size w wr)) (fun _ v _ => (intOf v).toNat)
  case atStart => exact ⟨0, n, rfl, rfl, by omega, HS0⟩
  case round =>
    clear HS0
    obtain ⟨d, r, rfl, rfl, hdr, HS⟩ := hrel
    by_cases hr : 0 < r
    · have HPL := hide (place_any (a + d) wr (by omega))
      have hr1 : (0 : Int) < (r : Int) := by omega
      obtain ⟨k, hk⟩ : ∃ k, k = min r (64 - (a + d) % 64) := ⟨_, rfl⟩
      have hk1 : k ≤ r := by omega
      have hr4 : r ≤ 4096 := by omega
      have hk0 : 0 < k := by omega
      have hk2 : k + (a + d) % 64 ≤ 64 := by omega
      have HB := hide (unhide HBO wr ((a + d) / 64) ((a + d) % 64) k (unhide HS).2 (by omega) (by omega))
      rw [show 64 * ((a + d) / 64) + (a + d) % 64 = a + d by omega] at HB
      have HW : Hid (∀ w1, Below wr.heap.size wr w1 → Calls Tryz.prog 92 #[.pointer (some ⟨w.heap.size, 0, none⟩), .string (BA (bytsOf x (a + d) k))] w1 fun e w' => e = .returned (.tuple #[.int .i64 ((BA (bytsOf x (a + d) k)).size : Int), .nilIface]) ∧ Hid (Lib.IsBuilder 111 5 w.heap.size w.heap.size (Lib.byteCells (bytsOf x a (d + k))) w' ∧ Below w.heap.size w w')) := hide (fun w1 hb => by
        have hsz := (unhide HS).2.size
        refine (bwrite_any w.heap.size w.heap.size (bytsOf x a d) (BA (bytsOf x (a + d) k)) w1 (bld_keep (unhide HS).1 hb) (by simp [bytsOf_len]; omega) (by have := hb.size; omega)).mono ?_
        rintro e w' ⟨h1, h2, h3⟩
        refine ⟨h1, hide ⟨?_, (unhide HS).2.trans ((hb.mono hsz).trans h3)⟩⟩
        rw [bytsOf_app]
        exact h2)
      obtain ⟨pt, hpt⟩ : ∃ pt, pt = (a + d) / 64 := ⟨_, rfl⟩
      obtain ⟨fr, hfr⟩ : ∃ fr, fr = (a + d) % 64 := ⟨_, rfl⟩
      rw [← hpt, ← hfr] at HPL HB
      rw [← hfr] at hk hk2
      have hmin : min (r : Int) (64 - (fr : Int)) = (k : Int) := by omega
      have hfr64 : fr < 64 := by omega
      have had : a + d ≤ 4096 := by omega
      obtain ⟨ad, had2⟩ : ∃ ad, ad = a + d := ⟨_, rfl⟩
      rw [← had2] at HPL HB HW had
      have HAD := hide had2
      have HDR := hide hdr
      have HK := hide hk
      clear hpt hfr had2 HS HBO hdr hk hr hn
      rw [← unhide HAD]
      go_wp2_with fail
      refine (unhide HPL).mono ?_
      rintro e w1 ⟨rfl, hw1⟩
      rw [show w1 = wr from hw1]
      clear hw1
      go_wp2_with fail
      refine (unhide HB).mono ?_
      rintro e w1 ⟨rfl, h1⟩
      have H1 := hide h1
      clear h1
      go_wp2_with fail
      refine (unhide HW w1 (unhide H1)).mono ?_
      rintro e w2 ⟨rfl, H2⟩
      go_wp2
      go_roundw
      case rel => exact ⟨d + k, r - k, by have := unhide HAD; go_num, by go_num, by have := unhide HDR; omega, H2⟩
      case measure => simp [intOf]; omega
    · have hr1 : ¬ (0 : Int) < (r : Int) := by omega
      have HSS : Hid (Calls Tryz.prog 49 #[.pointer (some ⟨w.heap.size, 0, none⟩)] wr fun e w' => e = .returned (.string (BA (bytsOf x a n))) ∧ Below w.heap.size w w') := hide (by
        obtain rfl : d = n := by omega
        refine (Tryz.Builder_String_any w.heap.size w.heap.size _ _ (unhide HS).1 (unhide HS).2.size).mono ?_
        rintro e w' ⟨h1, h2⟩
        exact ⟨h1, (unhide HS).2.trans h2⟩)
      clear HS HBO hdr hr hn
      go_wp2_with fail
      refine (unhide HSS).mono ?_
      rintro e w1 ⟨rfl, h1⟩
      have H1 := hide h1
      clear h1
      go_wp2
      go_ret
      exact ⟨rfl, unhide H1⟩

set_option maxRecDepth 20000 in
theorem tread_nil (i a n : Int) (w : World) : Calls Tryz.prog 47 #[.pointer none, .int .i64 i, .int .i64 a, .int .i64 n] w fun e w' => e = .returned (.tuple #[.string ⟨#[]⟩, .int .i64 2]) ∧ w' = w := by
  go_enter Tryz.func47, Tryz.ntmps47
  go_wp2_with fail
  refine (tfind_nil i w).mono ?_
  rintro e w1 ⟨rfl, hw1⟩
  rw [show w1 = w from hw1]
  clear hw1
  go_wp2
  go_ret2
  exact ⟨rfl, rfl⟩

set_option maxRecDepth 20000 in
set_option maxHeartbeats 1000000 in
theorem tread_any {w : World} {p nb : Nat} {X : Nat → Prop} {T : TB} (H : TAt w p X T nb) (hgd : ∀ (k : Nat) (x : Nd), T[k]? = some (some x) → x.size ≤ 4096) (i a n : Int) (hb : -9223372036854775808 ≤ i ∧ i ≤ 9223372036854775807) (ha : a ≤ 9223372036854775807) : Calls Tryz.prog 47 #[.pointer (some ⟨p, 0, none⟩), .int .i64 i, .int .i64 a, .int .i64 n] w fun e w' => e = .returned (.tuple #[.string (BA (rdT T i a n)), .int .i64 (rdE T i a n)]) ∧ Below w.heap.size w w' := by
  obtain ⟨L, HL, hin, hnb⟩ := H
  unfold rdT rdE
  cases hx : ndAt T i with
  | none =>
    have HF := hide (tfind_none HL hx hb)
    clear HL hx hin
    go_enter Tryz.func47, Tryz.ntmps47
    go_wp2_with fail
    refine (unhide HF).mono ?_
    rintro e w1 ⟨rfl, hw1⟩
    rw [show w1 = w from hw1]
    clear hw1
    go_wp2
    go_ret2
    exact ⟨rfl, Below.refl _ _⟩
  | some x =>
    obtain ⟨k, rfl, hk, _⟩ := ndAt_some hx
    have HF := hide (tfind_some HL hk)
    dsimp only
    by_cases h1 : a < 0
    · rw [if_pos (.inl h1), if_pos (.inl h1)]
      obtain ⟨q, hq⟩ : ∃ q, q = L.q k := ⟨_, rfl⟩
      rw [← hq] at HF
      clear HL hx hin hq hk hgd
      go_enter Tryz.func47, Tryz.ntmps47
      go_wp2_with fail
      refine (unhide HF).mono ?_
      rintro e w1 ⟨rfl, hw1⟩
      rw [show w1 = w from hw1]
      clear hw1
      go_wp2
      go_ret2
      exact ⟨rfl, Below.refl _ _⟩
    · by_cases h2 : n < 0
      · rw [if_pos (.inr h2), if_pos (.inr h2)]
        obtain ⟨q, hq⟩ : ∃ q, q = L.q k := ⟨_, rfl⟩
        rw [← hq] at HF
        clear HL hx hin hq hk hgd
        go_enter Tryz.func47, Tryz.ntmps47
        go_wp2_with fail
        refine (unhide HF).mono ?_
        rintro e w1 ⟨rfl, hw1⟩
        rw [show w1 = w from hw1]
        clear hw1
        go_wp2
        go_ret2
        exact ⟨rfl, Below.refl _ _⟩
      · rw [if_neg (by omega), if_neg (by omega)]
        obtain ⟨at', rfl⟩ : ∃ at' : Nat, a = at' := ⟨a.toNat, by omega⟩
        obtain ⟨n', rfl⟩ : ∃ n' : Nat, n = n' := ⟨n.toNat, by omega⟩
        have hsz := hgd k x hk
        have c := (HL.node k x hk).blk.cell 3 rfl
        change _ = some (Value.int .i64 (x.size : Int)) at c
        obtain ⟨r, hr⟩ : ∃ r : Int, min (n' : Int) ((x.size : Int) - (at' : Int)) = r := ⟨_, rfl⟩
        have HB : Hid (Calls Tryz.prog 68 #[.pointer (some ⟨p, 0, none⟩), .pointer (some ⟨L.q k, 0, none⟩), .int .i64 (at' : Int), .int .i64 r] w fun e w' => e = .returned (.string (BA (((datOf x).drop at').take n'))) ∧ Below w.heap.size w w') := hide (by
          by_cases h0 : r ≤ 0
          · have e : ((datOf x).drop at').take n' = [] := by
              apply List.eq_nil_of_length_eq_zero
              rw [List.length_take, List.length_drop, datOf_len]
              omega
            rw [e]
            exact bytes_none p (L.q k) at' r w h0
          · obtain ⟨m, rfl⟩ : ∃ m : Nat, r = m := ⟨r.toNat, by omega⟩
            have e : ((datOf x).drop at').take n' = bytsOf x at' m := by
              apply List.ext_getElem
              · rw [List.length_take, List.length_drop, datOf_len, bytsOf_len]
                omega
              · intro j g1 g2
                rw [bytsOf_len] at g2
                simp [datOf, bytsOf]
            rw [e]
            exact bytes_any HL hk at' m (by omega))
        simp only [Int.toNat_natCast]
        obtain ⟨q, hq⟩ : ∃ q, q = L.q k := ⟨_, rfl⟩
        rw [← hq] at HF HB c
        obtain ⟨sz, hsz2⟩ : ∃ sz, sz = x.size := ⟨_, rfl⟩
        rw [← hsz2] at c hr hsz
        clear HL hx hin hq hk hgd hsz2
        go_enter Tryz.func47, Tryz.ntmps47
        go_wp2_with fail
        refine (unhide HF).mono ?_
        rintro e w1 ⟨rfl, hw1⟩
        rw [show w1 = w from hw1]
        clear hw1
        go_wp2_with fail
        refine (unhide HB).mono ?_
        rintro e w1 ⟨rfl, h3⟩
        have H3 := hide h3
        clear h3
        go_wp2
        go_ret2
        exact ⟨rfl, unhide H3⟩

end Go.Proofs.YtemologkibcdoaaGreatDoor

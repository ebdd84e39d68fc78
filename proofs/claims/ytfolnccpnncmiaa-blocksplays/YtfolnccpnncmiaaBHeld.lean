/-
  A store that a call made and holds; the chapter's examples.
-/
import Derived.Test.YtfolnccpnncmiaaBCopy
namespace Go.Proofs.Ytfolnccpnncmiaa
open Go.RowKit

/-- In W, which came of w, the store at p has l; its blocks are newer than w. -/
def Held (w W : World) (p g h : Nat) (l : BL) : Prop := BAt W p g h l ∧ Below w.heap.size w W ∧ w.heap.size ≤ p ∧ w.heap.size ≤ g ∧ w.heap.size ≤ h
/-- Only the store's own rows have turned. -/
def Own2 (W W' : World) (g h : Nat) : Prop := GrownS W W' (fun k => k = g ∨ k = h)
theorem Held.turn {w W W' : World} {p g h : Nat} {l l' : BL} (H : Held w W p g h l) (hb : BAt W' p g h l') (hg : Own2 W W' g h) : Held w W' p g h l' :=
  ⟨hb, H.2.1.trans (hg.below H.2.1.size (fun k e => by rcases e with rfl | rfl; exact H.2.2.2.1; exact H.2.2.2.2)), H.2.2⟩
theorem Held.below {w W W' : World} {p g h : Nat} {l : BL} (H : Held w W p g h l) (hb : Below W.heap.size W W') : Held w W' p g h l :=
  ⟨H.1.below hb, H.2.1.trans (hb.mono H.2.1.size), H.2.2⟩
theorem own2_refl (W : World) (g h : Nat) : Own2 W W g h := grownS_of_below (Below.refl _ _)
theorem new_held (n : Nat) (w W : World) (hb : Below w.heap.size w W) (h1 : 1 ≤ n) (h2 : n ≤ 4096) : Calls Try.prog 8 #[.int .i64 (n : Int)] W fun e w' => ∃ p g h, e = .returned (.tuple #[.pointer (some ⟨p, 0, none⟩), .int .i64 0]) ∧ Held w w' p g h (List.replicate n []) ∧ Below W.heap.size W w' :=
  (new_any n W h1 h2).mono fun _ _ ⟨p, g, h, e1, e2, e3, e4, e5, e6⟩ => ⟨p, g, h, e1, ⟨e2, hb.trans (e3.mono hb.size), Nat.le_trans hb.size e4, Nat.le_trans hb.size e5, Nat.le_trans hb.size e6⟩, e3⟩
theorem take_held {w W : World} {p g h : Nat} {l : BL} (H : Held w W p g h l) {a e0 : Int} {l' : BL} (ha : takeN l = a) (he : takeE l = e0) (hl : takeL l = l') : Calls Try.prog 11 #[.pointer (some ⟨p, 0, none⟩)] W fun e w' => e = .returned (.tuple #[.int .i64 a, .int .i64 e0]) ∧ Held w w' p g h l' ∧ Own2 W w' g h :=
  (take_any W p g h l H.1).mono fun e w' ⟨e1, e2, e3⟩ => by
    subst ha he hl
    exact ⟨e1, H.turn e2 (e3.mono (fun k _ e => .inr e)), e3.mono (fun k _ e => .inr e)⟩
theorem give_held {w W : World} {p g h : Nat} {l : BL} (H : Held w W p g h l) (b : Int) (hb : -9223372036854775808 ≤ b ∧ b ≤ 9223372036854775807) {e0 : Int} {l' : BL} (he : giveE l b = e0) (hl : giveL l b = l') : Calls Try.prog 13 #[.pointer (some ⟨p, 0, none⟩), .int .i64 b] W fun e w' => e = .returned (.int .i64 e0) ∧ Held w w' p g h l' ∧ Own2 W w' g h :=
  (give_any W p g h l b H.1 hb).mono fun e w' ⟨e1, e2, e3⟩ => by
    subst he hl
    exact ⟨e1, H.turn e2 e3, e3⟩
theorem write_held {w W : World} {p g h : Nat} {l : BL} (H : Held w W p g h l) (b a : Int) (d : List UInt8) (hb : -9223372036854775808 ≤ b ∧ b ≤ 9223372036854775807) (ha : -9223372036854775808 ≤ a ∧ a ≤ 9223372036854775807) {e0 : Int} {l' : BL} (he : writeE l b a d = e0) (hl : writeL l b a d = l') : Calls Try.prog 17 #[.pointer (some ⟨p, 0, none⟩), .int .i64 b, .int .i64 a, .string (BA d)] W fun e w' => e = .returned (.int .i64 e0) ∧ Held w w' p g h l' ∧ Own2 W w' g h :=
  (write_any W p g h l b a d H.1 hb ha).mono fun e w' ⟨e1, e2, e3⟩ => by
    subst he hl
    exact ⟨e1, H.turn e2 (e3.mono (fun k _ e => .inl e)), e3.mono (fun k _ e => .inl e)⟩
theorem read_held {w W : World} {p g h : Nat} {l : BL} (H : Held w W p g h l) (b a n : Int) (hb : -9223372036854775808 ≤ b ∧ b ≤ 9223372036854775807) (ha : -9223372036854775808 ≤ a ∧ a ≤ 9223372036854775807) {e0 : Int} {t : List UInt8} (ht : readT l b a n = t) (he : readE l b a n = e0) : Calls Try.prog 15 #[.pointer (some ⟨p, 0, none⟩), .int .i64 b, .int .i64 a, .int .i64 n] W fun e w' => e = .returned (.tuple #[.string (BA t), .int .i64 e0]) ∧ w' = W :=
  (read_any W p g h l b a n H.1 hb ha).mono fun e w' ⟨e1, e2⟩ => by
    subst ht he
    exact ⟨e1, e2⟩
theorem free_held {w W : World} {p g h : Nat} {l : BL} (H : Held w W p g h l) : Calls Try.prog 21 #[.pointer (some ⟨p, 0, none⟩)] W fun e w' => e = .returned (.int .i64 (freeN l : Int)) ∧ w' = W := free_any W p g h l H.1

set_option maxRecDepth 20000 in
set_option maxHeartbeats 1000000 in
theorem awake_any (w : World) : Calls Try.prog 10 #[] w fun e w' => e = .returned (.bool true) ∧ Below w.heap.size w w' := by
  have HNW := hide (new_held 2 w w (Below.refl _ _) (by decide) (by decide))
  go_enter Try.func10, Try.ntmps10
  go_wp2_with fail
  refine (unhide HNW).mono ?_
  rintro e w1 ⟨p, g, h, rfl, k1, _⟩
  have K1 := hide k1
  clear k1 HNW
  go_wp2_with fail
  refine (take_held (unhide K1) (a := 1) (e0 := 0) (l' := [z64, []]) (by decide +kernel) (by decide +kernel) (by decide +kernel)).mono ?_
  rintro e w2 ⟨rfl, k2, _⟩
  have K2 := hide k2
  clear k2 K1
  go_wp2_with fail
  refine (take_held (unhide K2) (a := 2) (e0 := 0) (l' := [z64, z64]) (by decide +kernel) (by decide +kernel) (by decide +kernel)).mono ?_
  rintro e w3 ⟨rfl, k3, _⟩
  have K3 := hide k3
  clear k3 K2
  go_wp2_with fail
  refine (take_held (unhide K3) (a := 0) (e0 := 20) (l' := [z64, z64]) (by decide +kernel) (by decide +kernel) (by decide +kernel)).mono ?_
  rintro e w4 ⟨rfl, k4, _⟩
  have K4 := hide k4
  clear k4 K3
  go_wp2_with fail
  refine (give_held (unhide K4) 1 (by decide) (e0 := 0) (l' := [[], z64]) (by decide +kernel) (by decide +kernel)).mono ?_
  rintro e w5 ⟨rfl, k5, _⟩
  have K5 := hide k5
  clear k5 K4
  go_wp2_with fail
  refine (take_held (unhide K5) (a := 1) (e0 := 0) (l' := [z64, z64]) (by decide +kernel) (by decide +kernel) (by decide +kernel)).mono ?_
  rintro e w6 ⟨rfl, k6, _⟩
  have K6 := hide k6
  clear k6 K5
  go_wp2_with fail
  refine (read_held (unhide K6) 1 64 1 (by decide) (by decide) (t := []) (e0 := 1) (by decide +kernel) (by decide +kernel)).mono ?_
  rintro e w7 ⟨rfl, hw7⟩
  rw [show w7 = w6 from hw7]
  clear hw7
  go_wp2_with fail
  refine (read_held (unhide K6) 1 63 1 (by decide) (by decide) (t := [0]) (e0 := 0) (by decide +kernel) (by decide +kernel)).mono ?_
  rintro e w7 ⟨rfl, hw7⟩
  rw [show w7 = w6 from hw7, show BA [0] = ⟨#[0]⟩ from rfl]
  clear hw7
  go_wp2
  go_ret
  exact ⟨rfl, (unhide K6).2.1⟩

end Go.Proofs.Ytfolnccpnncmiaa

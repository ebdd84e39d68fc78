/-
  A pipe that is held by a law alone; the chapter's examples; a nil pipe.
-/
import Derived.Test.YtiaenfnjjlpknaaPpCall
namespace Go.Proofs.Ytiaenfnjjlpknaa
open Go.RowKit

/-- In W, which came of w, the pipe at p has x; it is newer than w. -/
structure Hp (w W : World) (p : Nat) (x : Pp) : Prop where
  at' : PAt W p x
  bel : Below w.heap.size w W
  new : w.heap.size ≤ p
theorem Hp.turn {w W W' : World} {p : Nat} {x y : Pp} (H : Hp w W p x) (h : PAt W' p y) (hg : GrownS W W' (fun k => k = p)) : Hp w W' p y :=
  ⟨h, H.bel.trans (hg.below H.bel.size (fun k e => by rw [e]; exact H.new)), H.new⟩
theorem Hp.below {w W W' : World} {p : Nat} {x : Pp} (H : Hp w W p x) (hb : Below W.heap.size W W') : Hp w W' p x := ⟨H.at'.below hb, H.bel.trans (hb.mono H.bel.size), H.new⟩
theorem new_hp {w W : World} (hb : Below w.heap.size w W) : Calls Try.prog 7 #[] W fun e w' => ∃ p, e = .returned (.pointer (some ⟨p, 0, none⟩)) ∧ Hp w w' p np0 ∧ Below W.heap.size W w' :=
  (new_any W).mono fun _ _ ⟨p, h1, h2, h3, h4⟩ => ⟨p, h1, ⟨h2, hb.trans (h3.mono hb.size), Nat.le_trans hb.size h4⟩, h3⟩
theorem read_hp {w W : World} {p : Nat} {x : Pp} (H : Hp w W p x) (n : Int) {T : List UInt8} {E : Int} {y : Pp} (hT : rdT x n = T) (hE : rdE x n = E) (hy : rdS x n = y) : Calls Try.prog 10 #[.pointer (some ⟨p, 0, none⟩), .int .i64 n] W fun e w' => e = .returned (.tuple #[.string (BA T), .int .i64 E]) ∧ Hp w w' p y :=
  (read_any H.at' n).mono fun _ _ ⟨h1, h2, h3⟩ => by
    subst hT hE hy
    exact ⟨h1, H.turn h2 h3⟩
theorem write_hp {w W : World} {p : Nat} {x : Pp} (H : Hp w W p x) (d : List UInt8) {N : Nat} {E : Int} {y : Pp} (hN : wrN x d = N) (hE : wrE x d = E) (hy : wrS x d = y) : Calls Try.prog 12 #[.pointer (some ⟨p, 0, none⟩), .string (BA d)] W fun e w' => e = .returned (.tuple #[.int .i64 (N : Int), .int .i64 E]) ∧ Hp w w' p y :=
  (write_any H.at' d).mono fun _ _ ⟨h1, h2, h3⟩ => by
    subst hN hE hy
    exact ⟨h1, H.turn h2 h3⟩
theorem leave_hp {w W : World} {p : Nat} {x : Pp} (H : Hp w W p x) (b : Bool) {E : Int} {y : Pp} (hE : leE x b = E) (hy : leS x b = y) : Calls Try.prog 16 #[.pointer (some ⟨p, 0, none⟩), .bool b] W fun e w' => e = .returned (.int .i64 E) ∧ Hp w w' p y :=
  (leave_any H.at' b).mono fun _ _ ⟨h1, h2, h3⟩ => by
    subst hE hy
    exact ⟨h1, H.turn h2 h3⟩

def z70 : List UInt8 := List.replicate 70 0
def x64 : Pp := ⟨List.replicate 64 0, 1, 1⟩
def x61 : Pp := ⟨List.replicate 61 0, 1, 1⟩
set_option maxRecDepth 20000 in
set_option maxHeartbeats 1000000 in
theorem awake_any (w : World) : Calls Try.prog 9 #[] w fun e w' => e = .returned (.bool true) ∧ Below w.heap.size w w' := by
  have HNW := hide (new_hp (w := w) (W := w) (Below.refl _ _))
  obtain ⟨zs, hz1, hz2, mk⟩ := mk_run 70 (by decide)
  have mk5 : ∀ u : World, (Instr.makeSlice 47 (.int .i64 70) (.int .i64 70)).run Try.prog u = .ok (.slice (some ⟨u.heap.size, 0, none⟩) 70 70) (u.alloc (.cells zs 5)) := mk
  have HCV : Hid (∀ u : World, (convert 47 9 (.slice (some ⟨u.heap.size, 0, none⟩) 70 70)).run Try.prog (u.alloc (.cells zs 5)) = .ok (.string (BA z70)) (u.alloc (.cells zs 5))) := hide (fun u => cv_run _ _ 70 zs z70 (by decide) (Blk.new _ _ _) (fun j c hj => by
    have hj2 := hj
    unfold z70 at hj2
    rw [List.getElem?_replicate] at hj2
    split at hj2
    · cases hj2
      exact hz2 j (by assumption)
    · cases hj2))
  have HMK := hide mk5
  clear mk mk5 hz1 hz2
  go_enter Try.func9, Try.ntmps9
  go_wp2_with fail
  refine (unhide HNW).mono ?_
  rintro e w1 ⟨p, rfl, k1, _⟩
  have K1 : Hid (Hp w (w1.alloc (.cells zs 5)) p np0) := hide (k1.below ((Below.refl _ _).alloc (Nat.le_refl _) _))
  have mk1 := unhide HMK w1
  have cv1 := unhide HCV w1
  obtain ⟨Z, hZ⟩ : ∃ Z, Z = BA z70 := ⟨_, rfl⟩
  rw [← hZ] at cv1
  have HZ := hide hZ
  clear k1 HNW HMK HCV hZ
  go_wp2_with fail
  rw [unhide HZ]
  refine (write_hp (unhide K1) z70 (N := 64) (E := 0) (y := x64) (by decide +kernel) (by decide +kernel) (by kernel_rfl)).mono ?_
  rintro e w2 ⟨rfl, k2⟩
  have K2 := hide k2
  clear k2 K1 mk1 cv1
  go_wp2_with fail
  refine (write_hp (unhide K2) [120] (N := 0) (E := 30) (y := x64) (by decide +kernel) (by decide +kernel) (by kernel_rfl)).mono ?_
  rintro e w3 ⟨rfl, k3⟩
  have K3 := hide k3
  clear k3 K2
  go_wp2_with fail
  refine (read_hp (unhide K3) 3 (T := [0, 0, 0]) (E := 0) (y := x61) (by decide +kernel) (by decide +kernel) (by kernel_rfl)).mono ?_
  rintro e w4 ⟨rfl, k4⟩
  rw [show BA [0, 0, 0] = ⟨#[0, 0, 0]⟩ from rfl]
  have K4 := hide k4
  clear k4 K3
  go_wp2_with fail
  refine (write_hp (unhide K4) [120, 121, 122, 33] (N := 3) (E := 0) (y := wrS x61 [120, 121, 122, 33]) (by decide +kernel) (by decide +kernel) rfl).mono ?_
  rintro e w5 ⟨rfl, k5⟩
  have K5 := hide k5
  clear k5 K4
  go_wp2
  go_ret
  exact ⟨rfl, (unhide K5).bel⟩

set_option maxRecDepth 20000 in
theorem read_nil (n : Int) (w : World) : Calls Try.prog 10 #[.pointer none, .int .i64 n] w fun e w' => e = .returned (.tuple #[.string (BA []), .int .i64 2]) ∧ w' = w := by
  go_enter Try.func10, Try.ntmps10
  go_wp2
  go_ret2
  exact ⟨rfl, rfl⟩
set_option maxRecDepth 20000 in
theorem write_nil (d : ByteArray) (w : World) : Calls Try.prog 12 #[.pointer none, .string d] w fun e w' => e = .returned (.tuple #[.int .i64 0, .int .i64 2]) ∧ w' = w := by
  go_enter Try.func12, Try.ntmps12
  go_wp2
  go_ret2
  exact ⟨rfl, rfl⟩
set_option maxRecDepth 20000 in
theorem users_nil (w : World) : Calls Try.prog 18 #[.pointer none] w fun e w' => e = .returned (.tuple #[.int .i64 0, .int .i64 0]) ∧ w' = w := by
  go_enter Try.func18, Try.ntmps18
  go_wp2
  go_ret2
  exact ⟨rfl, rfl⟩
set_option maxRecDepth 20000 in
theorem join_nil (b : Bool) (w : World) : Calls Try.prog 15 #[.pointer none, .bool b] w fun e w' => e = .returned (.int .i64 2) ∧ w' = w := by
  go_enter Try.func15, Try.ntmps15
  go_wp2
  go_ret
  exact ⟨rfl, rfl⟩
set_option maxRecDepth 20000 in
theorem leave_nil (b : Bool) (w : World) : Calls Try.prog 16 #[.pointer none, .bool b] w fun e w' => e = .returned (.int .i64 2) ∧ w' = w := by
  go_enter Try.func16, Try.ntmps16
  go_wp2
  go_ret
  exact ⟨rfl, rfl⟩
set_option maxRecDepth 20000 in
theorem len_nil (w : World) : Calls Try.prog 19 #[.pointer none] w fun e w' => e = .returned (.int .i64 0) ∧ w' = w := by
  go_enter Try.func19, Try.ntmps19
  go_wp2
  go_ret
  exact ⟨rfl, rfl⟩

set_option maxRecDepth 20000 in
set_option maxHeartbeats 1000000 in
theorem nil_walk (d : ByteArray) (n : Int) (w : World) : Calls Try.prog 6 #[.string d, .int .i64 n] w fun e w' => e = .returned (.bool true) ∧ Below w.heap.size w w' := by
  go_enter Try.func6, Try.ntmps6
  go_wp2_with fail
  refine (read_nil n w).mono ?_
  rintro e w1 ⟨rfl, hw1⟩
  rw [show w1 = w from hw1]
  clear hw1
  go_wp2_with fail
  refine (write_nil d w).mono ?_
  rintro e w1 ⟨rfl, hw1⟩
  rw [show w1 = w from hw1]
  clear hw1
  go_wp2_with fail
  refine (users_nil w).mono ?_
  rintro e w1 ⟨rfl, hw1⟩
  rw [show w1 = w from hw1]
  clear hw1
  go_wp2_with fail
  refine (join_nil true w).mono ?_
  rintro e w1 ⟨rfl, hw1⟩
  rw [show w1 = w from hw1]
  clear hw1
  go_wp2_with fail
  refine (leave_nil true w).mono ?_
  rintro e w1 ⟨rfl, hw1⟩
  rw [show w1 = w from hw1]
  clear hw1
  go_wp2_with fail
  refine (len_nil w).mono ?_
  rintro e w1 ⟨rfl, hw1⟩
  rw [show w1 = w from hw1]
  clear hw1
  go_wp2_with fail
  refine (awake_any w).mono ?_
  rintro e w1 ⟨rfl, hw1⟩
  have HB := hide hw1
  clear hw1
  go_wp2
  go_ret
  exact ⟨rfl, unhide HB⟩

end Go.Proofs.Ytiaenfnjjlpknaa

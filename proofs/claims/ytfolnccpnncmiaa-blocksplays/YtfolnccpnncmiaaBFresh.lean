/-
  BlocksFresh: a block that is taken anew has nothing of what it had.
-/
import Derived.Test.YtfolnccpnncmiaaBHeld
namespace Go.Proofs.Ytfolnccpnncmiaa
open Go.RowKit

/-- 'string(make([]byte, n))': n zeros, in a new block. -/
theorem zeros_run (n : Nat) (hn : n ≤ 4096) : ∃ cs : Array Value, (∀ u : World, (Instr.makeSlice 43 (.int .i64 (n : Int)) (.int .i64 (n : Int))).run Try.prog u = .ok (.slice (some ⟨u.heap.size, 0, none⟩) n n) (u.alloc (.cells cs 5))) ∧ ∀ u : World, (convert 43 9 (.slice (some ⟨u.heap.size, 0, none⟩) n n)).run Try.prog (u.alloc (.cells cs 5)) = .ok (.string (BA (List.replicate n 0))) (u.alloc (.cells cs 5)) := by
  obtain ⟨i, hi, hz, hs, hb⟩ := info2 (t := 5) (z := some (.int .u8 0)) (a := 1) (c := 1) (by kernel_rfl)
  refine ⟨madeCells #[.int .u8 0] n, fun u => ?_, fun u => ?_⟩
  · have := run_make (P := Try.prog) u 43 5 i (.int .u8 0) (by kernel_rfl) hi hz .i64 .i64 n n (by omega) (Int.le_refl _) (by rw [hb]; omega) (by omega)
    rw [hs] at this
    simpa [Value.cells] using this
  · have := run_convert_bytes_back (P := Try.prog) (u.alloc (.cells (madeCells #[.int .u8 0] n) 5)) 43 9 5 ⟨u.heap.size, 0, none⟩ n (List.replicate n 0) (by kernel_rfl) (by kernel_rfl) (by kernel_rfl) (fun j hj => by
      rw [List.length_replicate] at hj
      rw [add_o, Nat.zero_add]
      have h1 := (Blk.new u 5 (madeCells #[.int .u8 0] n)).cell j (made_at _ _ _ hj (v := .int .u8 0) (fun m hm => by
        match m, hm with
        | 0, _ => rfl) (by decide))
      rw [h1, List.getElem_replicate]
      rfl)
    rwa [List.length_replicate] at this

set_option maxRecDepth 20000 in
set_option maxHeartbeats 1000000 in
theorem fresh_walk (d : List UInt8) (w : World) : Calls Try.prog 6 #[.string (BA d)] w fun e w' => e = .returned (.bool true) ∧ Below w.heap.size w w' := by
  have HAW : Hid (∀ W, Below w.heap.size w W → Calls Try.prog 10 #[] W fun e w' => e = .returned (.bool true) ∧ Below w.heap.size w w') := hide (fun W hW => (awake_any W).mono (fun e w' ⟨h1, h2⟩ => ⟨h1, hW.trans (h2.mono hW.size)⟩))
  by_cases hd : d.length ≤ 64
  · have HNW := hide (new_held 3 w w (Below.refl _ _) (by decide) (by decide))
    have HX := hide (put_len (x := z64) (d := d) (k := 0) rfl (by omega))
    have HI : Hid (inB 0 (d.length : Int) = true) := hide (by unfold inB; simp; omega)
    obtain ⟨zc, mk, cv⟩ := zeros_run 64 (by decide)
    rw [show List.replicate 64 0 = z64 from rfl] at cv
    go_enter Try.func6, Try.ntmps6
    go_wp2_with fail
    refine (unhide HNW).mono ?_
    rintro e w1 ⟨p, g, h, rfl, k1, _⟩
    have K1 := hide k1
    clear k1 HNW
    go_wp2_with fail
    refine (take_held (unhide K1) (a := 1) (e0 := 0) (l' := [z64, [], []]) (by decide +kernel) (by decide +kernel) (by decide +kernel)).mono ?_
    rintro e w2 ⟨rfl, k2, _⟩
    have K2 := hide k2
    clear k2 K1
    go_wp2_with fail
    refine (write_held (unhide K2) 1 0 d (by decide) (by decide) (e0 := 0) (l' := [putAt z64 0 d, [], []]) (by unfold writeE; rw [unhide HI]; rfl) (by unfold writeL; rw [unhide HI]; rfl)).mono ?_
    rintro e w3 ⟨rfl, k3, _⟩
    have K3 := hide k3
    clear k3 K2
    have HT : Hid (tkn [putAt z64 0 d, [], []] 1 = true) := hide (by
      have := tkn_of (l := [putAt z64 0 d, [], []]) (i := 0) (x := putAt z64 0 d) rfl
      rw [show (((0 : Nat) : Int) + 1) = 1 from rfl] at this
      rw [this]
      cases hq : putAt z64 0 d with
      | nil => have h2 := unhide HX; rw [hq] at h2; cases h2
      | cons => rfl)
    go_wp2_with fail
    refine (give_held (unhide K3) 1 (by decide) (e0 := 0) (l' := [[], [], []]) (by unfold giveE; rw [unhide HT]; rfl) (by unfold giveL; rw [unhide HT]; rfl)).mono ?_
    rintro e w4 ⟨rfl, k4, _⟩
    have K4 := hide k4
    clear k4 K3
    go_wp2_with fail
    refine (read_held (unhide K4) 1 0 0 (by decide) (by decide) (t := []) (e0 := 23) (by decide +kernel) (by decide +kernel)).mono ?_
    rintro e w5 ⟨rfl, hw5⟩
    rw [show w5 = w4 from hw5]
    clear hw5
    go_wp2_with fail
    refine (take_held (unhide K4) (a := 1) (e0 := 0) (l' := [z64, [], []]) (by decide +kernel) (by decide +kernel) (by decide +kernel)).mono ?_
    rintro e w5 ⟨rfl, k5, _⟩
    have K5 := hide k5
    clear k5 K4
    go_wp2_with fail
    refine (read_held (unhide K5) 1 0 64 (by decide) (by decide) (t := z64) (e0 := 0) (by decide +kernel) (by decide +kernel)).mono ?_
    rintro e w6 ⟨rfl, hw6⟩
    rw [show w6 = w5 from hw6]
    clear hw6
    have HS : Hid (∀ W, Below w5.heap.size w5 W → Below w.heap.size w W) := hide (fun W h => (unhide K5).2.1.trans (h.mono (unhide K5).2.1.size))
    have mk5 : (Instr.makeSlice 43 (.int .i64 64) (.int .i64 64)).run Try.prog w5 = .ok (.slice (some ⟨w5.heap.size, 0, none⟩) 64 64) (w5.alloc (.cells zc 5)) := mk w5
    have cv5 := cv w5
    clear mk cv
    go_wp2_with fail
    refine (unhide HAW _ (unhide HS _ ((Below.refl _ _).alloc (Nat.le_refl _) _))).mono ?_
    rintro e w7 ⟨rfl, b7⟩
    have HB := hide b7
    clear b7
    go_wp2
    go_ret
    exact ⟨rfl, unhide HB⟩
  · go_enter Try.func6, Try.ntmps6
    go_wp2_with fail
    refine (unhide HAW _ (Below.refl _ _)).mono ?_
    rintro e w2 ⟨rfl, b2⟩
    have HB2 := hide b2
    clear b2
    go_wp2
    go_ret
    exact ⟨rfl, unhide HB2⟩

end Go.Proofs.Ytfolnccpnncmiaa

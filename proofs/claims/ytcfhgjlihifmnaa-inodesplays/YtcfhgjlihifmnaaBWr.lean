/-
  Give, Read, Write, Free.
-/
import Derived.Test.YtcfhgjlihifmnaaBFind
import Derived.Laws.IdiomStrings
import Derived.Laws.CopyOwn
namespace Go.Proofs.Ytcfhgjlihifmnaa
open Go.RowKit

set_option maxRecDepth 20000 in
theorem give_nil (b : Int) (w : World) : Calls Try.prog 65 #[.pointer none, .int .i64 b] w fun e w' => e = .returned (.int .i64 2) ∧ w' = w := by
  have HF := hide (find_nil b w)
  go_enter Try.func65, Try.ntmps65
  go_wp2_with fail
  refine (unhide HF).mono ?_
  rintro e w1 ⟨rfl, hw1⟩
  rw [show w1 = w from hw1]
  clear hw1
  go_wp2
  go_ret
  exact ⟨rfl, rfl⟩
set_option maxRecDepth 20000 in
theorem read_nil (b a n : Int) (w : World) : Calls Try.prog 72 #[.pointer none, .int .i64 b, .int .i64 a, .int .i64 n] w fun e w' => e = .returned (.tuple #[.string ⟨#[]⟩, .int .i64 2]) ∧ w' = w := by
  have HF := hide (find_nil b w)
  go_enter Try.func72, Try.ntmps72
  go_wp2_with fail
  refine (unhide HF).mono ?_
  rintro e w1 ⟨rfl, hw1⟩
  rw [show w1 = w from hw1]
  clear hw1
  go_wp2
  go_ret2
  exact ⟨rfl, rfl⟩
set_option maxRecDepth 20000 in
theorem write_nil (b a : Int) (s : ByteArray) (w : World) : Calls Try.prog 59 #[.pointer none, .int .i64 b, .int .i64 a, .string s] w fun e w' => e = .returned (.int .i64 2) ∧ w' = w := by
  have HF := hide (find_nil b w)
  go_enter Try.func59, Try.ntmps59
  go_wp2_with fail
  refine (unhide HF).mono ?_
  rintro e w1 ⟨rfl, hw1⟩
  rw [show w1 = w from hw1]
  clear hw1
  go_wp2
  go_ret
  exact ⟨rfl, rfl⟩
set_option maxRecDepth 20000 in
theorem free_nil (w : World) : Calls Try.prog 44 #[.pointer none] w fun e w' => e = .returned (.int .i64 0) ∧ w' = w := by
  go_enter Try.func44, Try.ntmps44
  go_wp2
  go_ret
  exact ⟨rfl, rfl⟩
set_option maxRecDepth 20000 in
theorem copy_nil (w : World) : Calls Try.prog 32 #[.pointer none] w fun e w' => e = .returned (.pointer none) ∧ w' = w := by
  go_enter Try.func32, Try.ntmps32
  go_wp2
  go_ret
  exact ⟨rfl, rfl⟩

theorem fndV_no {l : BL} {g : Nat} {b : Int} (h : tkn l b = false) : fndV l g b = .tuple #[.pointer none, .int .i64 23] := by
  unfold fndV
  rw [h]
  rfl
theorem fndV_of {l : BL} {g i : Nat} {b : Int} (h : tkn l b = true) (hi : (b - 1).toNat = i) : fndV l g b = .tuple #[.pointer (some ⟨g, i * 64, none⟩), .int .i64 0] := by
  unfold fndV
  rw [h, hi]
  rfl
/-- How the bytes of a row are read as a text. -/
theorem bytes_text (w : World) (g c : Nat) (o k cap : Nat) (l : BL) (cs : Array Value) (i : Nat) (x : List UInt8) (hb : Blk w g c cs) (hB : Bytes l cs) (hx : l[i]? = some x) (hl : x.length = 64) (hk : o + k ≤ 64) :
    (convert 53 9 (.slice (some ⟨g, i * 64 + o, none⟩) k cap)).run Try.prog w = .ok (.string (BA ((x.drop o).take k))) w := by
  have hlen : ((x.drop o).take k).length = k := by simp; omega
  have := run_convert_bytes_back (P := Try.prog) w 53 9 5 ⟨g, i * 64 + o, none⟩ cap ((x.drop o).take k) (by kernel_rfl) (by kernel_rfl) (by kernel_rfl) (fun j hj => by
    rw [hlen] at hj
    have h1 := hB i (o + j) (List.getElem?_eq_some_iff.1 hx).1 (by omega)
    rw [bAt_of hx, List.getD_eq_getElem?_getD, List.getElem?_eq_getElem (by omega)] at h1
    have h2 := hb.cell _ h1
    have e : ((⟨g, i * 64 + o, none⟩ : Addr).add j) = ⟨g, 64 * i + (o + j), none⟩ := by
      by_cases h0 : j = 0
      · subst h0; simp [Addr.add]; omega
      · simp [Addr.add, h0]; omega
    rw [e, h2]
    simp)
  rw [hlen] at this
  exact this

def offs (o : Nat) : Nat := if o = 64 then 0 else o
theorem und_blk : Try.prog.underlying 93 = some (.array 64 5) := by kernel_rfl
theorem len_blk : Try.prog.arrayLen 93 = 64 := by kernel_rfl
theorem elem_blk : Try.prog.elem 93 = 5 := by kernel_rfl
theorem size_byte (w : World) : (sizeOf 5).run Try.prog w = .ok 1 w := by kernel_rfl
theorem add_o (g a k : Nat) : ((⟨g, a, none⟩ : Addr).add k) = ⟨g, a + k, none⟩ := by
  by_cases h : k = 0
  · subst h; simp [Addr.add]
  · simp [Addr.add, h]
theorem sliced_at (g a o k : Nat) : slicedAt ⟨g, a, none⟩ o (o + k) 64 1 = .slice (some ⟨g, a + offs o, none⟩) k (64 - o) := by
  unfold slicedAt offs
  rw [Nat.mul_one, add_o, Nat.add_sub_cancel_left]
  by_cases h : o = 64
  · rw [if_pos h.symm, if_pos h, Nat.add_zero]
  · rw [if_neg (fun e => h e.symm), if_neg h]
theorem slice_lh (w : World) (g a o k : Nat) (h : o + k ≤ 64) : (Instr.sliceAt 93 (.pointer (some ⟨g, a, none⟩)) (some (.int .i64 (o : Int))) (some (.int .i64 ((o : Int) + (k : Int)))) none).run Try.prog w = .ok (.slice (some ⟨g, a + offs o, none⟩) k (64 - o)) w := by
  rw [run_sliceAt_array_lh w _ _ (by rw [len_blk, elem_blk]; exact und_blk) .i64 .i64 (o : Int) ((o : Int) + (k : Int)) (by omega) (by omega) (by rw [len_blk]; omega), elem_blk, size_byte, len_blk]
  simp only [Result.andThen_ok]
  rw [show ((o : Int) + (k : Int)).toNat = o + k by omega, Int.toNat_natCast, sliced_at g a o k]
theorem slice_l (w : World) (g a o : Nat) (h : o ≤ 64) : (Instr.sliceAt 93 (.pointer (some ⟨g, a, none⟩)) (some (.int .i64 (o : Int))) none none).run Try.prog w = .ok (.slice (some ⟨g, a + offs o, none⟩) (64 - o) (64 - o)) w := by
  rw [run_sliceAt_array_l w _ _ (by rw [len_blk, elem_blk]; exact und_blk) .i64 (o : Int) (by omega) (by rw [len_blk]; omega), elem_blk, size_byte, len_blk]
  simp only [Result.andThen_ok]
  have := sliced_at g a o (64 - o)
  rw [show o + (64 - o) = 64 by omega] at this
  rw [Int.toNat_natCast, this]

set_option maxRecDepth 20000 in
set_option maxHeartbeats 1000000 in
theorem read_any (w : World) (p g h : Nat) (l : BL) (b a n : Int) (H : BAt w p g h l) (hb : -9223372036854775808 ≤ b ∧ b ≤ 9223372036854775807) (ha : -9223372036854775808 ≤ a ∧ a ≤ 9223372036854775807) :
    Calls Try.prog 72 #[.pointer (some ⟨p, 0, none⟩), .int .i64 b, .int .i64 a, .int .i64 n] w fun e w' => e = .returned (.tuple #[.string (BA (readT l b a n)), .int .i64 (readE l b a n)]) ∧ w' = w := by
  have HF := hide (find_any w p g h l b H hb)
  have HW := hide (within_any a n w ha)
  cases ht : tkn l b with
  | false =>
    rw [fndV_no ht] at HF
    rw [show readT l b a n = [] by unfold readT; rw [ht]; rfl, show readE l b a n = 23 by unfold readE; rw [ht]; rfl]
    clear ht H
    go_enter Try.func72, Try.ntmps72
    go_wp2_with fail
    refine (unhide HF).mono ?_
    rintro e w1 ⟨rfl, hw1⟩
    rw [show w1 = w from hw1]
    clear hw1
    go_wp2
    go_ret2
    exact ⟨rfl, rfl⟩
  | true =>
    obtain ⟨i, x, rfl, hi, hx, hne, e1, e2⟩ := tkn_some ht
    rw [fndV_of ht e1] at HF
    cases hin : inB a n with
    | false =>
      rw [hin] at HW
      rw [show readT l ((i : Int) + 1) a n = [] by unfold readT; rw [ht, hin]; rfl, show readE l ((i : Int) + 1) a n = 1 by unfold readE; rw [ht, hin]; rfl]
      clear ht H hin e1 e2 hx
      go_enter Try.func72, Try.ntmps72
      go_wp2_with fail
      refine (unhide HF).mono ?_
      rintro e w1 ⟨rfl, hw1⟩
      rw [show w1 = w from hw1]
      clear hw1
      go_wp2_with fail
      refine (unhide HW).mono ?_
      rintro e w1 ⟨rfl, hw1⟩
      rw [show w1 = w from hw1]
      clear hw1
      go_wp2
      go_ret2
      exact ⟨rfl, rfl⟩
    | true =>
      rw [hin] at HW
      obtain ⟨h1, h2, h3⟩ := inB_some hin
      obtain ⟨o, rfl⟩ : ∃ o : Nat, a = o := ⟨a.toNat, by omega⟩
      obtain ⟨k, rfl⟩ : ∃ k : Nat, n = k := ⟨n.toNat, by omega⟩
      have hlx := H.wf.len hx hne
      obtain ⟨hw, c, d, cs, ds, k1, k2, k3, _, _, _, _, _, _, hB, hT⟩ := H
      have HC : Hid ((convert 53 9 (.slice (some ⟨g, i * 64 + offs o, none⟩) k (64 - o))).run Try.prog w = .ok (.string (BA ((x.drop o).take k))) w) := hide (by
        rw [bytes_text w g _ (offs o) k _ l cs i x k2 hB hx hlx (by unfold offs; split <;> omega)]
        unfold offs
        by_cases h64 : o = 64
        · rw [show k = 0 by omega]
          rfl
        · rw [if_neg h64])
      have HS := hide (slice_lh w g (i * 64) o k (by omega))
      rw [show readT l ((i : Int) + 1) o k = (x.drop o).take k by unfold readT; rw [ht, hin, e1, e2]; rfl, show readE l ((i : Int) + 1) o k = 0 by unfold readE; rw [ht, hin]; rfl]
      have h4 : (o : Int) + (k : Int) ≤ 64 := h3
      clear ht hin e1 e2 hx hB hT k1 k2 k3 hne h3
      go_enter Try.func72, Try.ntmps72
      go_wp2_with fail
      refine (unhide HF).mono ?_
      rintro e w1 ⟨rfl, hw1⟩
      rw [show w1 = w from hw1]
      clear hw1
      go_wp2_with fail
      refine (unhide HW).mono ?_
      rintro e w1 ⟨rfl, hw1⟩
      rw [show w1 = w from hw1]
      clear hw1
      have hc := unhide HC
      have hs := unhide HS
      go_wp2
      go_ret2
      exact ⟨rfl, rfl⟩

end Go.Proofs.Ytcfhgjlihifmnaa

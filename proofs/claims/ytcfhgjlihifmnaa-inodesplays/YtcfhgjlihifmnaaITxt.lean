/-
  Texts put together; bytes 0.
-/
import Derived.Test.YtcfhgjlihifmnaaIHeld
namespace Go.Proofs.Ytcfhgjlihifmnaa
open Go.RowKit

theorem BA_add (a b : List UInt8) : BA a ++ BA b = BA (a ++ b) := by
  apply ByteArray.ext
  apply Array.ext'
  simp [BA]
theorem ext_take (x : List UInt8) (k : Nat) : (BA x).extract 0 k = BA (x.take k) := by
  have := extract_take (BA x) 0 k
  rwa [Nat.zero_add, BA_list, List.drop_zero] at this
theorem ext_drop (x : List UInt8) (k n : Nat) (h : x.length = n) : (BA x).extract k n = BA (x.drop k) := by
  have := extract_end (BA x) k
  rwa [BA_size, h, BA_list] at this
/-- 'string(make([]byte, n))': n zeros, in a new block. -/
theorem zeros_run (n : Nat) (hn : n ≤ 8192) : ∃ cs : Array Value, (∀ u : World, (Instr.makeSlice 53 (.int .i64 (n : Int)) (.int .i64 (n : Int))).run Try.prog u = .ok (.slice (some ⟨u.heap.size, 0, none⟩) n n) (u.alloc (.cells cs 5))) ∧
    (∀ u : World, (convert 53 9 (.slice (some ⟨u.heap.size, 0, none⟩) n n)).run Try.prog (u.alloc (.cells cs 5)) = .ok (.string (BA (List.replicate n 0))) (u.alloc (.cells cs 5))) ∧
    ∀ u : World, (convert 53 9 (.slice (some ⟨u.heap.size, 0, none⟩) n n)).run Try.prog (u.alloc (.cells cs 5)).drew = .ok (.string (BA (List.replicate n 0))) (u.alloc (.cells cs 5)).drew := by
  obtain ⟨i, hi, hz, hs, hb⟩ := info2 (t := 5) (z := some (.int .u8 0)) (a := 1) (c := 1) (by kernel_rfl)
  have hcell : ∀ (u : World) (j : Nat), j < n → (u.alloc (.cells (madeCells #[.int .u8 0] n) 5)).cell? ((⟨u.heap.size, 0, none⟩ : Addr).add j) = some (.int .u8 0) := fun u j hj => by
    rw [add_o, Nat.zero_add]
    exact (Blk.new u 5 (madeCells #[.int .u8 0] n)).cell j (made_at _ _ _ hj (v := .int .u8 0) (fun m hm => by
      match m, hm with
      | 0, _ => rfl) (by decide))
  refine ⟨madeCells #[.int .u8 0] n, fun u => ?_, fun u => ?_, fun u => ?_⟩
  · have := run_make (P := Try.prog) u 53 5 i (.int .u8 0) (by kernel_rfl) hi hz .i64 .i64 n n (by omega) (Int.le_refl _) (by rw [hb]; omega) (by omega)
    rw [hs] at this
    simpa [Value.cells] using this
  · have := run_convert_bytes_back (P := Try.prog) (u.alloc (.cells (madeCells #[.int .u8 0] n) 5)) 53 9 5 ⟨u.heap.size, 0, none⟩ n (List.replicate n 0) (by kernel_rfl) (by kernel_rfl) (by kernel_rfl) (fun j hj => by
      rw [List.length_replicate] at hj
      rw [hcell u j hj, List.getElem_replicate]
      rfl)
    rwa [List.length_replicate] at this
  · have := run_convert_bytes_back (P := Try.prog) (u.alloc (.cells (madeCells #[.int .u8 0] n) 5)).drew 53 9 5 ⟨u.heap.size, 0, none⟩ n (List.replicate n 0) (by kernel_rfl) (by kernel_rfl) (by kernel_rfl) (fun j hj => by
      rw [List.length_replicate] at hj
      rw [show (u.alloc (.cells (madeCells #[.int .u8 0] n) 5)).drew.cell? ((⟨u.heap.size, 0, none⟩ : Addr).add j) = (u.alloc (.cells (madeCells #[.int .u8 0] n) 5)).cell? ((⟨u.heap.size, 0, none⟩ : Addr).add j) from rfl, hcell u j hj, List.getElem_replicate]
      rfl)
    rwa [List.length_replicate] at this
theorem cnt_count (n : Nat) : ∀ m, (List.range m).countP (fun k => decide (k < n)) = min n m
  | 0 => by simp
  | m + 1 => by
    rw [List.range_succ, List.countP_append, cnt_count n m, List.countP_singleton]
    by_cases h : m < n
    · rw [if_pos (by simpa using h)]
      omega
    · rw [if_neg (by simpa using h)]
      omega
/-- How many blocks bytes want that are written to a node without blocks, from a place in its first part on. -/
theorem cnt_first {a done : Nat} (ha : a < 64) (hd : 0 < done) (hm : a + done ≤ 4096) : cnt (hasP (fun _ => false) a done) = (a + done + 63) / 64 := by
  have e : hasP (fun _ => false) a done = fun k => decide (k < (a + done + 63) / 64) := by
    funext k
    unfold hasP
    simp only [Bool.false_or]
    rw [show decide (0 < done) = true by simpa using hd, show decide (a / 64 ≤ k) = true by simp; omega]
    simp only [Bool.true_and]
    congr 1
    apply propext
    omega
  rw [e]
  unfold cnt
  rw [cnt_count]
  omega
theorem cnt_no : cnt (fun _ => false) = 0 := by decide

end Go.Proofs.Ytcfhgjlihifmnaa

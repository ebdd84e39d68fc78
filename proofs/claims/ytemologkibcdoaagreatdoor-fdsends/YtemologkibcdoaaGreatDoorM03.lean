/-
  Give, Read, Write, Free.
  Give, Write, Free.
-/
import Derived.Test.YtemologkibcdoaaGreatDoorM02
import Derived.Laws.IdiomStrings
import Derived.Laws.CopyOwn
import Derived.Lib.BufferWrite
import Derived.Deep.WholeRow

/- Give, Read, Write, Free. -/
namespace Go.Proofs.YtemologkibcdoaaGreatDoor
open Go.RowKit

set_option maxRecDepth 20000 in
theorem give_nil (b : Int) (w : World) : Calls Tryz.prog 136 #[.pointer none, .int .i64 b] w fun e w' => e = .returned (.int .i64 2) ∧ w' = w := by
  have HF := hide (find_nil b w)
  go_enter Tryz.func136, Tryz.ntmps136
  go_wp2_with fail
  refine (unhide HF).mono ?_
  rintro e w1 ⟨rfl, hw1⟩
  rw [show w1 = w from hw1]
  clear hw1
  go_wp2
  go_ret
  exact ⟨rfl, rfl⟩
set_option maxRecDepth 20000 in
theorem read_nil (b a n : Int) (w : World) : Calls Tryz.prog 119 #[.pointer none, .int .i64 b, .int .i64 a, .int .i64 n] w fun e w' => e = .returned (.tuple #[.string ⟨#[]⟩, .int .i64 2]) ∧ w' = w := by
  have HF := hide (find_nil b w)
  go_enter Tryz.func119, Tryz.ntmps119
  go_wp2_with fail
  refine (unhide HF).mono ?_
  rintro e w1 ⟨rfl, hw1⟩
  rw [show w1 = w from hw1]
  clear hw1
  go_wp2
  go_ret2
  exact ⟨rfl, rfl⟩
set_option maxRecDepth 20000 in
theorem write_nil (b a : Int) (s : ByteArray) (w : World) : Calls Tryz.prog 142 #[.pointer none, .int .i64 b, .int .i64 a, .string s] w fun e w' => e = .returned (.int .i64 2) ∧ w' = w := by
  have HF := hide (find_nil b w)
  go_enter Tryz.func142, Tryz.ntmps142
  go_wp2_with fail
  refine (unhide HF).mono ?_
  rintro e w1 ⟨rfl, hw1⟩
  rw [show w1 = w from hw1]
  clear hw1
  go_wp2
  go_ret
  exact ⟨rfl, rfl⟩
set_option maxRecDepth 20000 in
theorem free_nil (w : World) : Calls Tryz.prog 53 #[.pointer none] w fun e w' => e = .returned (.int .i64 0) ∧ w' = w := by
  go_enter Tryz.func53, Tryz.ntmps53
  go_wp2
  go_ret
  exact ⟨rfl, rfl⟩
theorem fndV_no {l : BL} {g : Nat} {b : Int} (h : tkn l b = false) : fndV l g b = .tuple #[.pointer none, .int .i64 23] := by
  unfold fndV
  rw [h]
  rfl
theorem fndV_of {l : BL} {g i : Nat} {b : Int} (h : tkn l b = true) (hi : (b - 1).toNat = i) : fndV l g b = .tuple #[.pointer (some ⟨g, i * 64, none⟩), .int .i64 0] := by
  unfold fndV
  rw [h, hi]
  rfl
/-- How the bytes of a row are read as a text. -/
theorem bytes_text (w : World) (g c : Nat) (o k cap : Nat) (l : BL) (cs : Array Value) (i : Nat) (x : List UInt8) (hb : Blk w g c cs) (hB : Bytes l cs) (hx : l[i]? = some x) (hl : x.length = 64) (hk : o + k ≤ 64) :
    (convert 109 9 (.slice (some ⟨g, i * 64 + o, none⟩) k cap)).run Tryz.prog w = .ok (.string (BA ((x.drop o).take k))) w := by
  have hlen : ((x.drop o).take k).length = k := by simp; omega
  have := run_convert_bytes_back (P := Tryz.prog) w 109 9 5 ⟨g, i * 64 + o, none⟩ cap ((x.drop o).take k) (by kernel_rfl) (by kernel_rfl) (by kernel_rfl) (fun j hj => by
    rw [hlen] at hj
    have h1 := hB i (o + j) (List.getElem?_eq_some_iff.1 hx).1 (by omega)
    rw [bAt_of hx, List.getD_eq_getElem?_getD, List.getElem?_eq_getElem (by omega)] at h1
    have h2 := hb.cell _ h1
    have e : ((⟨g, i * 64 + o, none⟩ : Addr).add j) = ⟨g, 64 * i + (o + j), none⟩ := by
      by_cases h0 : j = 0
      · subst h0; simp [Addr.add]; omega
      · simp [Addr.add, h0]; omega
    rw [e, h2]
    simp)
  rw [hlen] at this
  exact this

def offs (o : Nat) : Nat := if o = 64 then 0 else o
theorem und_blk : Tryz.prog.underlying 246 = some (.array 64 5) := by kernel_rfl
theorem len_blk : Tryz.prog.arrayLen 246 = 64 := by kernel_rfl
theorem elem_blk : Tryz.prog.elem 246 = 5 := by kernel_rfl
theorem size_byte (w : World) : (sizeOf 5).run Tryz.prog w = .ok 1 w := by kernel_rfl
theorem add_o (g a k : Nat) : ((⟨g, a, none⟩ : Addr).add k) = ⟨g, a + k, none⟩ := by
  by_cases h : k = 0
  · subst h; simp [Addr.add]
  · simp [Addr.add, h]
theorem sliced_at (g a o k : Nat) : slicedAt ⟨g, a, none⟩ o (o + k) 64 1 = .slice (some ⟨g, a + offs o, none⟩) k (64 - o) := by
  unfold slicedAt offs
  rw [Nat.mul_one, add_o, Nat.add_sub_cancel_left]
  by_cases h : o = 64
  · rw [if_pos h.symm, if_pos h, Nat.add_zero]
  · rw [if_neg (fun e => h e.symm), if_neg h]
theorem slice_lh (w : World) (g a o k : Nat) (h : o + k ≤ 64) : (Instr.sliceAt 246 (.pointer (some ⟨g, a, none⟩)) (some (.int .i64 (o : Int))) (some (.int .i64 ((o : Int) + (k : Int)))) none).run Tryz.prog w = .ok (.slice (some ⟨g, a + offs o, none⟩) k (64 - o)) w := by
  rw [run_sliceAt_array_lh w _ _ (by rw [len_blk, elem_blk]; exact und_blk) .i64 .i64 (o : Int) ((o : Int) + (k : Int)) (by omega) (by omega) (by rw [len_blk]; omega), elem_blk, size_byte, len_blk]
  simp only [Result.andThen_ok]
  rw [show ((o : Int) + (k : Int)).toNat = o + k by omega, Int.toNat_natCast, sliced_at g a o k]
theorem slice_l (w : World) (g a o : Nat) (h : o ≤ 64) : (Instr.sliceAt 246 (.pointer (some ⟨g, a, none⟩)) (some (.int .i64 (o : Int))) none none).run Tryz.prog w = .ok (.slice (some ⟨g, a + offs o, none⟩) (64 - o) (64 - o)) w := by
  rw [run_sliceAt_array_l w _ _ (by rw [len_blk, elem_blk]; exact und_blk) .i64 (o : Int) (by omega) (by rw [len_blk]; omega), elem_blk, size_byte, len_blk]
  simp only [Result.andThen_ok]
  have := sliced_at g a o (64 - o)
  rw [show o + (64 - o) = 64 by omega] at this
  rw [Int.toNat_natCast, this]

set_option maxRecDepth 20000 in
set_option maxHeartbeats 1000000 in
theorem read_any (w : World) (p g h : Nat) (l : BL) (b a n : Int) (H : BAt w p g h l) (hb : -9223372036854775808 ≤ b ∧ b ≤ 9223372036854775807) (ha : -9223372036854775808 ≤ a ∧ a ≤ 9223372036854775807) :
    Calls Tryz.prog 119 #[.pointer (some ⟨p, 0, none⟩), .int .i64 b, .int .i64 a, .int .i64 n] w fun e w' => e = .returned (.tuple #[.string (BA (readT l b a n)), .int .i64 (readE l b a n)]) ∧ w' = w := by
  have HF := hide (find_any w p g h l b H hb)
  have HW := hide (within_any a n w ha)
  cases ht : tkn l b with
  | false =>
    rw [fndV_no ht] at HF
    rw [show readT l b a n = [] by unfold readT; rw [ht]; rfl, show readE l b a n = 23 by unfold readE; rw [ht]; rfl]
    clear ht H
    go_enter Tryz.func119, Tryz.ntmps119
    go_wp2_with fail
    refine (unhide HF).mono ?_
    rintro e w1 ⟨rfl, hw1⟩
    rw [show w1 = w from hw1]
    clear hw1
    go_wp2
    go_ret2
    exact ⟨rfl, rfl⟩
  | true =>
    obtain ⟨i, x, rfl, hi, hx, hne, e1, e2⟩ := tkn_some ht
    rw [fndV_of ht e1] at HF
    cases hin : inB a n with
    | false =>
      rw [hin] at HW
      rw [show readT l ((i : Int) + 1) a n = [] by unfold readT; rw [ht, hin]; rfl, show readE l ((i : Int) + 1) a n = 1 by unfold readE; rw [ht, hin]; rfl]
      clear ht H hin e1 e2 hx
      go_enter Tryz.func119, Tryz.ntmps119
      go_wp2_with fail
      refine (unhide HF).mono ?_
      rintro e w1 ⟨rfl, hw1⟩
      rw [show w1 = w from hw1]
      clear hw1
      go_wp2_with fail
      refine (unhide HW).mono ?_
      rintro e w1 ⟨rfl, hw1⟩
      rw [show w1 = w from hw1]
      clear hw1
      go_wp2
      go_ret2
      exact ⟨rfl, rfl⟩
    | true =>
      rw [hin] at HW
      obtain ⟨h1, h2, h3⟩ := inB_some hin
      obtain ⟨o, rfl⟩ : ∃ o : Nat, a = o := ⟨a.toNat, by omega⟩
      obtain ⟨k, rfl⟩ : ∃ k : Nat, n = k := ⟨n.toNat, by omega⟩
      have hlx := H.wf.len hx hne
      obtain ⟨hw, c, d, cs, ds, k1, k2, k3, _, _, _, _, _, _, hB, hT⟩ := H
      have HC : Hid ((convert 109 9 (.slice (some ⟨g, i * 64 + offs o, none⟩) k (64 - o))).run Tryz.prog w = .ok (.string (BA ((x.drop o).take k))) w) := hide (by
        rw [bytes_text w g _ (offs o) k _ l cs i x k2 hB hx hlx (by unfold offs; split <;> omega)]
        unfold offs
        by_cases h64 : o = 64
        · rw [show k = 0 by omega]
          rfl
        · rw [if_neg h64])
      have HS := hide (slice_lh w g (i * 64) o k (by omega))
      rw [show readT l ((i : Int) + 1) o k = (x.drop o).take k by unfold readT; rw [ht, hin, e1, e2]; rfl, show readE l ((i : Int) + 1) o k = 0 by unfold readE; rw [ht, hin]; rfl]
      have h4 : (o : Int) + (k : Int) ≤ 64 := h3
      clear ht hin e1 e2 hx hB hT k1 k2 k3 hne h3
      go_enter Tryz.func119, Tryz.ntmps119
      go_wp2_with fail
      refine (unhide HF).mono ?_
      rintro e w1 ⟨rfl, hw1⟩
      rw [show w1 = w from hw1]
      clear hw1
      go_wp2_with fail
      refine (unhide HW).mono ?_
      rintro e w1 ⟨rfl, hw1⟩
      rw [show w1 = w from hw1]
      clear hw1
      have hc := unhide HC
      have hs := unhide HS
      go_wp2
      go_ret2
      exact ⟨rfl, rfl⟩

end Go.Proofs.YtemologkibcdoaaGreatDoor

/- Give, Write, Free. -/
namespace Go.Proofs.YtemologkibcdoaaGreatDoor
open Go.RowKit

theorem BAt.mark {w : World} {p g h : Nat} {l : BL} (H : BAt w p g h l) {i : Nat} {y : List UInt8} (hi : i < l.length) (hy : y = [] ∨ y.length = 64) (hx : ∀ j, j < 64 → y.getD j 0 = bAt l i j) : BAt (w.setCell ⟨h, i, none⟩ (.bool (!y.isEmpty))) p g h (l.set i y) := by
  have hne := H.ne
  obtain ⟨hw, c, d, cs, ds, k1, k2, k3, h1, h2, h3, h4, h5, h6, hB, hT⟩ := H
  have hg := GrownS.of (S := fun k => k = h) (grown_setCell w ⟨h, i, none⟩ (.bool (!y.isEmpty))) (fun k e => by simpa using e)
  refine ⟨hw.set _ hy, c, d, cs, ds.setIfInBounds i (.bool (!y.isEmpty)), ?_, k2.grownS hg hne.2.2, k3.set i _, by rw [List.length_set]; exact h1, by rw [List.length_set]; exact h2, h3, by simpa using h4, h5, h6, hB.same hi hx, hT.set hi (by omega)⟩
  have := k1.grownS hg hne.2.1
  rwa [List.length_set]
theorem wpList_store_run {P : Program} {ops : Array Oper} {rest : List Oper} {o : Oper} {a : Act} {w W : World} {Q : Exit → Act → World → Prop} (hgd : o.guard = none) (ty : TypeId) (x y : Operand) (ho : o.op = .store ty x y) (ad : Addr) (cells : Array Value) (hx : a.eval x = .pointer (some ad)) (hy : a.eval y = .agg cells)
    (hr : (storeVar ty ad (.agg cells)).run P w = .ok () W) (h : wpList P ops Q rest (a.put o.dst undef) W) : wpList P ops Q (o :: rest) a w :=
  wpList_plain hgd fun _ hK => by
    unfold Oper.wp execOp
    simp only [ho, hx, hy, Instr.storeAt, Instr.sureAddr, Sem.run_bind, Sem.run_pure, Result.andThen_ok, hr]
    exact hK _ _ h
theorem run_storeVar_at {P : Program} (w : World) (g o : Nat) (t ty : TypeId) (cells cs : Array Value) (l : List Value) (hl : cells.toList = l) (hb : Blk w g t cs) (hs : o + l.length ≤ cs.size) (hi : (P.info? ty).map (·.size) = some l.length) (h1 : ∀ v ∈ l, v.oneCell' = true) :
    (storeVar ty ⟨g, o, none⟩ (.agg cells)).run P w = .ok () (w.setRow g (cs.toList.take o ++ (l ++ cs.toList.drop (o + l.length))).toArray) := by
  subst hl
  have hr := run_storeCells_at P g o t cells.toList 0 cs w hb (by simpa using hs) h1
  cases hq : P.info? ty with
  | none => simp [hq] at hi
  | some i =>
    have hs : cells.size = i.size := by simp [hq] at hi; omega
    simp only [Nat.add_zero, List.append_assoc] at hr
    simp [storeVar, sizeOf, typeInfo, hq, Value.cells, hs]
    simpa [hs] using hr
theorem info_blk : (Tryz.prog.info? 246).map (·.size) = some 64 := by kernel_rfl
theorem Blk.setRow {w : World} {b : Nat} {t : TypeId} {cs : Array Value} (h : Blk w b t cs) (c : Array Value) : Blk (w.setRow b c) b t c := setRow_heap w b cs c t (0, 0) h
theorem grown_setRow (w : World) (b : Nat) (c : Array Value) : GrownS w (w.setRow b c) (fun k => k = b) := ⟨rfl, rfl, rfl, by simp, fun k _ hk => setRow_other w b k c hk⟩
theorem cells_of (d : List UInt8) : d.map (fun c => Value.int .u8 (c.toNat : Int)) = Lib.byteCells d := rfl
/-- The block's bytes are turned. -/
theorem BAt.put {w : World} {p g h : Nat} {l : BL} (H : BAt w p g h l) {i k : Nat} {x d : List UInt8} (hx : l[i]? = some x) (hl : x.length = 64) (hk : k + d.length ≤ 64) (hne : x ≠ []) {cs : Array Value} (hb : Blk w g 246 cs) :
    BAt (w.setRow g (cs.toList.take (64 * i + k) ++ (Lib.byteCells d ++ cs.toList.drop (64 * i + k + d.length))).toArray) p g h (l.set i (putAt x k d)) := by
  have hn := H.ne
  obtain ⟨hw, c, d', cs', ds, k1, k2, k3, h1, h2, h3, h4, h5, h6, hB, hT⟩ := H
  have e : cs' = cs := by
    have h := k2.symm.trans hb
    injection h with h
    injection h
  subst e
  have hg := grown_setRow w g (cs'.toList.take (64 * i + k) ++ (Lib.byteCells d ++ cs'.toList.drop (64 * i + k + d.length))).toArray
  have hi := (List.getElem?_eq_some_iff.1 hx).1
  have hpl := put_len hl hk
  refine ⟨hw.set _ (.inr hpl), c, d', _, ds, ?_, k2.setRow _, k3.grownS hg (fun e => hn.2.2 e.symm), by rw [List.length_set]; exact h1, by rw [List.length_set]; exact h2, ?_, h4, h5, h6, hB.put hx hl hk (by omega), ?_⟩
  · rw [List.length_set]
    exact k1.grownS hg hn.1
  · simp [Lib.byteCells]
    omega
  · intro m y hm
    rw [List.getElem?_set] at hm
    by_cases em : i = m
    · subst em
      rw [if_pos rfl, if_pos hi] at hm
      cases hm
      have := hT i x hx
      rw [this]
      congr 2
      rw [show x.isEmpty = false by cases x; exact absurd rfl hne; rfl, show (putAt x k d).isEmpty = false by
        cases hq : putAt x k d with
        | nil => rw [hq] at hpl; cases hpl
        | cons => rfl]
    · rw [if_neg em] at hm
      exact hT m y hm
theorem getD_put {l : BL} {i : Nat} {x : List UInt8} (h : l[i]? = some x) : l.set i x = l := by
  apply List.ext_getElem?
  intro j
  rw [List.getElem?_set]
  by_cases e : i = j
  · subst e
    rw [if_pos rfl, if_pos (List.getElem?_eq_some_iff.1 h).1, h]
  · rw [if_neg e]
theorem copy_run (w : World) (p g h : Nat) (l : BL) (H : BAt w p g h l) (i o : Nat) (x d : List UInt8) (hx : l[i]? = some x) (hne : x ≠ []) (hk : o + d.length ≤ 64) (ty : TypeId) :
    ∃ w', (Builtin.copy_ #[109, 9] ty #[.slice (some ⟨g, i * 64 + offs o, none⟩) (64 - o) (64 - o), .string (BA d)]).run Tryz.prog w = .ok (goInt d.length) w' ∧ BAt w' p g h (l.set i (putAt x o d)) ∧ GrownS w w' (fun k => k = g) := by
  have hl := H.wf.len hx hne
  have hi := (List.getElem?_eq_some_iff.1 hx).1
  by_cases h0 : d.length = 0
  · obtain rfl : d = [] := List.eq_nil_of_length_eq_zero h0
    refine ⟨w, Lib.run_copy_empty_string w _ _ _ 5 _ _ _ _ (by kernel_rfl) (by kernel_rfl) rfl, ?_, grownS_of_below (Below.refl _ _)⟩
    have : putAt x o [] = x := by unfold putAt; simp
    rw [this, getD_put hx]
    exact H
  · have ho : offs o = o := by unfold offs; rw [if_neg (by omega)]
    obtain ⟨cs, hb, hsz⟩ : ∃ cs, Blk w g 246 cs ∧ 64 * l.length ≤ cs.size := by
      obtain ⟨hw, c, d', cs', ds, k1, k2, k3, h1, h2, h3, h4, h5, h6, hB, hT⟩ := H
      exact ⟨cs', k2, by omega⟩
    have hr := Lib.run_copy_row_string (P := Tryz.prog) w 109 9 ty 5 g (i * 64 + o) (64 - o) (64 - o) (BA d) cs _ (by kernel_rfl) (by kernel_rfl) hb (by rw [BA_size]; omega) (by rw [BA_size]; omega)
    rw [ho]
    refine ⟨_, hr, ?_, grown_setRow _ _ _⟩
    rw [BA_list, BA_size, List.append_assoc, show i * 64 + o = 64 * i + o by omega]
    exact H.put hx hl hk hne hb

theorem zero_run (w : World) (p g h : Nat) (l : BL) (H : BAt w p g h l) (i : Nat) (x : List UInt8) (hx : l[i]? = some x) (hne : x ≠ []) :
    ∃ W, (storeVar 246 ⟨g, i * 64, none⟩ (.agg #[.int .u8 0, .int .u8 0, .int .u8 0, .int .u8 0, .int .u8 0, .int .u8 0, .int .u8 0, .int .u8 0, .int .u8 0, .int .u8 0, .int .u8 0, .int .u8 0, .int .u8 0, .int .u8 0, .int .u8 0, .int .u8 0, .int .u8 0, .int .u8 0, .int .u8 0, .int .u8 0, .int .u8 0, .int .u8 0, .int .u8 0, .int .u8 0, .int .u8 0, .int .u8 0, .int .u8 0, .int .u8 0, .int .u8 0, .int .u8 0, .int .u8 0, .int .u8 0, .int .u8 0, .int .u8 0, .int .u8 0, .int .u8 0, .int .u8 0, .int .u8 0, .int .u8 0, .int .u8 0, .int .u8 0, .int .u8 0, .int .u8 0, .int .u8 0, .int .u8 0, .int .u8 0, .int .u8 0, .int .u8 0, .int .u8 0, .int .u8 0, .int .u8 0, .int .u8 0, .int .u8 0, .int .u8 0, .int .u8 0, .int .u8 0, .int .u8 0, .int .u8 0, .int .u8 0, .int .u8 0, .int .u8 0, .int .u8 0, .int .u8 0, .int .u8 0])).run Tryz.prog w = .ok () W ∧ BAt W p g h (l.set i z64) ∧ GrownS w W (fun k => k = g) := by
  have hl := H.wf.len hx hne
  have hi := (List.getElem?_eq_some_iff.1 hx).1
  obtain ⟨cs, hb, hsz⟩ : ∃ cs, Blk w g 246 cs ∧ 64 * l.length ≤ cs.size := by
    obtain ⟨hw, c, d', cs', ds, k1, k2, k3, h1, h2, h3, h4, h5, h6, hB, hT⟩ := H
    exact ⟨cs', k2, by omega⟩
  have hz : (#[.int .u8 0, .int .u8 0, .int .u8 0, .int .u8 0, .int .u8 0, .int .u8 0, .int .u8 0, .int .u8 0, .int .u8 0, .int .u8 0, .int .u8 0, .int .u8 0, .int .u8 0, .int .u8 0, .int .u8 0, .int .u8 0, .int .u8 0, .int .u8 0, .int .u8 0, .int .u8 0, .int .u8 0, .int .u8 0, .int .u8 0, .int .u8 0, .int .u8 0, .int .u8 0, .int .u8 0, .int .u8 0, .int .u8 0, .int .u8 0, .int .u8 0, .int .u8 0, .int .u8 0, .int .u8 0, .int .u8 0, .int .u8 0, .int .u8 0, .int .u8 0, .int .u8 0, .int .u8 0, .int .u8 0, .int .u8 0, .int .u8 0, .int .u8 0, .int .u8 0, .int .u8 0, .int .u8 0, .int .u8 0, .int .u8 0, .int .u8 0, .int .u8 0, .int .u8 0, .int .u8 0, .int .u8 0, .int .u8 0, .int .u8 0, .int .u8 0, .int .u8 0, .int .u8 0, .int .u8 0, .int .u8 0, .int .u8 0, .int .u8 0, .int .u8 0] : Array Value).toList = Lib.byteCells z64 := by kernel_rfl
  have hzl : (Lib.byteCells z64).length = 64 := by kernel_rfl
  have hr := run_storeVar_at (P := Tryz.prog) w g (i * 64) 246 246 _ cs _ hz hb (by rw [hzl]; omega) (by rw [hzl]; exact info_blk) (Lib.byteCells_one _)
  refine ⟨_, hr, ?_, grown_setRow _ _ _⟩
  rw [hzl, show i * 64 = 64 * i + 0 by omega]
  have := H.put (k := 0) (d := z64) hx hl (by simp [z64]) hne hb
  rwa [show putAt x 0 z64 = z64 by unfold putAt; rw [List.drop_of_length_le (by simp [z64]; omega)]; simp] at this

set_option maxRecDepth 20000 in
set_option maxHeartbeats 1000000 in
theorem write_any (w : World) (p g h : Nat) (l : BL) (b a : Int) (d : List UInt8) (H : BAt w p g h l) (hb : -9223372036854775808 ≤ b ∧ b ≤ 9223372036854775807) (ha : -9223372036854775808 ≤ a ∧ a ≤ 9223372036854775807) :
    Calls Tryz.prog 142 #[.pointer (some ⟨p, 0, none⟩), .int .i64 b, .int .i64 a, .string (BA d)] w fun e w' => e = .returned (.int .i64 (writeE l b a d)) ∧ BAt w' p g h (writeL l b a d) ∧ GrownS w w' (fun k => k = g) := by
  have HH := hide H
  have HF := hide (find_any w p g h l b H hb)
  have HW := hide (within_any a d.length w ha)
  cases ht : tkn l b with
  | false =>
    rw [fndV_no ht] at HF
    rw [show writeE l b a d = 23 by unfold writeE; rw [ht]; rfl, show writeL l b a d = l by unfold writeL; rw [ht]; rfl]
    clear ht H
    go_enter Tryz.func142, Tryz.ntmps142
    go_wp2_with fail
    refine (unhide HF).mono ?_
    rintro e w1 ⟨rfl, hw1⟩
    rw [show w1 = w from hw1]
    clear hw1
    go_wp2
    go_ret
    exact ⟨rfl, unhide HH, grownS_of_below (Below.refl _ _)⟩
  | true =>
    obtain ⟨i, x, rfl, hi, hx, hne, e1, e2⟩ := tkn_some ht
    rw [fndV_of ht e1] at HF
    cases hin : inB a d.length with
    | false =>
      rw [hin] at HW
      rw [show writeE l ((i : Int) + 1) a d = 1 by unfold writeE; rw [ht, hin]; rfl, show writeL l ((i : Int) + 1) a d = l by unfold writeL; rw [ht, hin]; rfl]
      clear ht H hin e1 e2 hx
      go_enter Tryz.func142, Tryz.ntmps142
      go_wp2_with fail
      refine (unhide HF).mono ?_
      rintro e w1 ⟨rfl, hw1⟩
      rw [show w1 = w from hw1]
      clear hw1
      go_wp2_with fail
      refine (unhide HW).mono ?_
      rintro e w1 ⟨rfl, hw1⟩
      rw [show w1 = w from hw1]
      clear hw1
      go_wp2
      go_ret
      exact ⟨rfl, unhide HH, grownS_of_below (Below.refl _ _)⟩
    | true =>
      rw [hin] at HW
      obtain ⟨h1, h2, h3⟩ := inB_some hin
      obtain ⟨o, rfl⟩ : ∃ o : Nat, a = o := ⟨a.toNat, by omega⟩
      rw [show writeE l ((i : Int) + 1) o d = 0 by unfold writeE; rw [ht, hin]; rfl, show writeL l ((i : Int) + 1) o d = l.set i (putAt x o d) by unfold writeL; rw [ht, hin, e1, e2]; rfl]
      have HS := hide (slice_l w g (i * 64) o (by omega))
      have HC := hide (copy_run w p g h l H i o x d hx hne (by omega))
      clear ht hin e1 e2 hx hne h3 H HH
      go_enter Tryz.func142, Tryz.ntmps142
      go_wp2_with fail
      refine (unhide HF).mono ?_
      rintro e w1 ⟨rfl, hw1⟩
      rw [show w1 = w from hw1]
      clear hw1
      go_wp2_with fail
      refine (unhide HW).mono ?_
      rintro e w1 ⟨rfl, hw1⟩
      rw [show w1 = w from hw1]
      clear hw1
      have hs := unhide HS
      obtain ⟨W, hc, HBW⟩ := unhide HC 3
      have HBW := hide HBW
      go_wp2
      go_ret
      exact ⟨rfl, unhide HBW⟩

set_option maxRecDepth 20000 in
set_option maxHeartbeats 1000000 in
theorem give_any (w : World) (p g h : Nat) (l : BL) (b : Int) (H : BAt w p g h l) (hb : -9223372036854775808 ≤ b ∧ b ≤ 9223372036854775807) :
    Calls Tryz.prog 136 #[.pointer (some ⟨p, 0, none⟩), .int .i64 b] w fun e w' => e = .returned (.int .i64 (giveE l b)) ∧ BAt w' p g h (giveL l b) ∧ GrownS w w' (fun k => k = g ∨ k = h) := by
  have HH := hide H
  have HF := hide (find_any w p g h l b H hb)
  cases ht : tkn l b with
  | false =>
    rw [fndV_no ht] at HF
    rw [show giveE l b = 23 by unfold giveE; rw [ht]; rfl, show giveL l b = l by unfold giveL; rw [ht]; rfl]
    clear ht H
    go_enter Tryz.func136, Tryz.ntmps136
    go_wp2_with fail
    refine (unhide HF).mono ?_
    rintro e w1 ⟨rfl, hw1⟩
    rw [show w1 = w from hw1]
    clear hw1
    go_wp2
    go_ret
    exact ⟨rfl, unhide HH, grownS_of_below (Below.refl _ _)⟩
  | true =>
    obtain ⟨i, x, rfl, hi, hx, hne, e1, e2⟩ := tkn_some ht
    rw [fndV_of ht e1] at HF
    rw [show giveE l ((i : Int) + 1) = 0 by unfold giveE; rw [ht]; rfl, show giveL l ((i : Int) + 1) = l.set i [] by unfold giveL; rw [ht, e1]; rfl]
    clear ht e1 e2
    obtain ⟨W, hz, hBW, hGW⟩ := zero_run w p g h l H i x hx hne
    have HZ := hide hz
    have HR : Hid (BAt (W.setCell ⟨h, i, none⟩ (.bool false)) p g h (l.set i []) ∧ GrownS w (W.setCell ⟨h, i, none⟩ (.bool false)) (fun k => k = g ∨ k = h)) := hide (by
      have h1 := hBW.mark (i := i) (y := []) (by simpa using hi) (.inl rfl) (fun j hj => by rw [bAt_set hi, if_pos rfl, z64_at]; rfl)
      rw [List.set_set] at h1
      exact ⟨h1, (hGW.mono (fun k _ e => .inl e)).trans ((GrownS.of (S := fun k => k = h) (grown_setCell W ⟨h, i, none⟩ (.bool false)) (fun k e => by simpa using e)).mono (fun k _ e => .inr e))⟩)
    obtain ⟨_, c, d, cs, ds, k1, k2, k3, h1, h2, h3, h4, h5, h6, hB, hT⟩ := hBW
    rw [List.length_set] at k1
    have q1 := k1.cell 1 rfl
    have c2 := k3.cell i (hT i z64 (by rw [List.getElem?_set, if_pos rfl, if_pos hi]))
    have f2 := k3.frozen i
    have q0 := (H.lies)
    obtain ⟨n, hn⟩ : ∃ n, n = l.length := ⟨_, rfl⟩
    rw [← hn] at q1 hi
    have hi1 : (i : Int) < (n : Int) := by omega
    clear q0 hn H HH hx hne hB hT k1 k2 k3 hz hGW h1 h2
    go_enter Tryz.func136, Tryz.ntmps136
    go_wp2_with fail
    refine (unhide HF).mono ?_
    rintro e w1 ⟨rfl, hw1⟩
    rw [show w1 = w from hw1]
    clear hw1
    go_wp2_with (refine wpList_store_run rfl _ _ _ rfl _ _ rfl rfl (unhide HZ) ?_)
    go_ret
    exact ⟨rfl, unhide HR⟩

end Go.Proofs.YtemologkibcdoaaGreatDoor

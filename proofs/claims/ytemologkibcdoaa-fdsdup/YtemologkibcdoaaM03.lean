/-
  Give, Read, Write, Free.
  Give, Write, Free.
-/
import Derived.Test.YtemologkibcdoaaM02
import Derived.Laws.IdiomStrings
import Derived.Laws.CopyOwn
import Derived.Lib.BufferWrite
import Derived.Deep.WholeRow

/- Give, Read, Write, Free. -/
namespace Go.Proofs.Ytemologkibcdoaa
open Go.RowKit

theorem fndV_no {l : BL} {g : Nat} {b : Int} (h : tkn l b = false) : fndV l g b = .tuple #[.pointer none, .int .i64 23] := by
  unfold fndV
  rw [h]
  rfl
theorem fndV_of {l : BL} {g i : Nat} {b : Int} (h : tkn l b = true) (hi : (b - 1).toNat = i) : fndV l g b = .tuple #[.pointer (some ⟨g, i * 64, none⟩), .int .i64 0] := by
  unfold fndV
  rw [h, hi]
  rfl
/-- How the bytes of a row are read as a text. -/
theorem bytes_text (w : World) (g c : Nat) (o k cap : Nat) (l : BL) (cs : Array Value) (i : Nat) (x : List UInt8) (hb : Blk w g c cs) (hB : Bytes l cs) (hx : l[i]? = some x) (hl : x.length = 64) (hk : o + k ≤ 64) :
    (convert 55 9 (.slice (some ⟨g, i * 64 + o, none⟩) k cap)).run Try.prog w = .ok (.string (BA ((x.drop o).take k))) w := by
  have hlen : ((x.drop o).take k).length = k := by simp; omega
  have := run_convert_bytes_back (P := Try.prog) w 55 9 5 ⟨g, i * 64 + o, none⟩ cap ((x.drop o).take k) (by kernel_rfl) (by kernel_rfl) (by kernel_rfl) (fun j hj => by
    rw [hlen] at hj
    have h1 := hB i (o + j) (List.getElem?_eq_some_iff.1 hx).1 (by omega)
    rw [bAt_of hx, List.getD_eq_getElem?_getD, List.getElem?_eq_getElem (by omega)] at h1
    have h2 := hb.cell _ h1
    have e : ((⟨g, i * 64 + o, none⟩ : Addr).add j) = ⟨g, 64 * i + (o + j), none⟩ := by
      by_cases h0 : j = 0
      · subst h0; simp [Addr.add]; omega
      · simp [Addr.add, h0]; omega
    rw [e, h2]
    simp)
  rw [hlen] at this
  exact this

def offs (o : Nat) : Nat := if o = 64 then 0 else o
theorem und_blk : Try.prog.underlying 146 = some (.array 64 5) := by kernel_rfl
theorem len_blk : Try.prog.arrayLen 146 = 64 := by kernel_rfl
theorem elem_blk : Try.prog.elem 146 = 5 := by kernel_rfl
theorem size_byte (w : World) : (sizeOf 5).run Try.prog w = .ok 1 w := by kernel_rfl
theorem add_o (g a k : Nat) : ((⟨g, a, none⟩ : Addr).add k) = ⟨g, a + k, none⟩ := by
  by_cases h : k = 0
  · subst h; simp [Addr.add]
  · simp [Addr.add, h]
theorem sliced_at (g a o k : Nat) : slicedAt ⟨g, a, none⟩ o (o + k) 64 1 = .slice (some ⟨g, a + offs o, none⟩) k (64 - o) := by
  unfold slicedAt offs
  rw [Nat.mul_one, add_o, Nat.add_sub_cancel_left]
  by_cases h : o = 64
  · rw [if_pos h.symm, if_pos h, Nat.add_zero]
  · rw [if_neg (fun e => h e.symm), if_neg h]
theorem slice_lh (w : World) (g a o k : Nat) (h : o + k ≤ 64) : (Instr.sliceAt 146 (.pointer (some ⟨g, a, none⟩)) (some (.int .i64 (o : Int))) (some (.int .i64 ((o : Int) + (k : Int)))) none).run Try.prog w = .ok (.slice (some ⟨g, a + offs o, none⟩) k (64 - o)) w := by
  rw [run_sliceAt_array_lh w _ _ (by rw [len_blk, elem_blk]; exact und_blk) .i64 .i64 (o : Int) ((o : Int) + (k : Int)) (by omega) (by omega) (by rw [len_blk]; omega), elem_blk, size_byte, len_blk]
  simp only [Result.andThen_ok]
  rw [show ((o : Int) + (k : Int)).toNat = o + k by omega, Int.toNat_natCast, sliced_at g a o k]
theorem slice_l (w : World) (g a o : Nat) (h : o ≤ 64) : (Instr.sliceAt 146 (.pointer (some ⟨g, a, none⟩)) (some (.int .i64 (o : Int))) none none).run Try.prog w = .ok (.slice (some ⟨g, a + offs o, none⟩) (64 - o) (64 - o)) w := by
  rw [run_sliceAt_array_l w _ _ (by rw [len_blk, elem_blk]; exact und_blk) .i64 (o : Int) (by omega) (by rw [len_blk]; omega), elem_blk, size_byte, len_blk]
  simp only [Result.andThen_ok]
  have := sliced_at g a o (64 - o)
  rw [show o + (64 - o) = 64 by omega] at this
  rw [Int.toNat_natCast, this]

end Go.Proofs.Ytemologkibcdoaa

/- Give, Write, Free. -/
namespace Go.Proofs.Ytemologkibcdoaa
open Go.RowKit

theorem BAt.mark {w : World} {p g h : Nat} {l : BL} (H : BAt w p g h l) {i : Nat} {y : List UInt8} (hi : i < l.length) (hy : y = [] ∨ y.length = 64) (hx : ∀ j, j < 64 → y.getD j 0 = bAt l i j) : BAt (w.setCell ⟨h, i, none⟩ (.bool (!y.isEmpty))) p g h (l.set i y) := by
  have hne := H.ne
  obtain ⟨hw, c, d, cs, ds, k1, k2, k3, h1, h2, h3, h4, h5, h6, hB, hT⟩ := H
  have hg := GrownS.of (S := fun k => k = h) (grown_setCell w ⟨h, i, none⟩ (.bool (!y.isEmpty))) (fun k e => by simpa using e)
  refine ⟨hw.set _ hy, c, d, cs, ds.setIfInBounds i (.bool (!y.isEmpty)), ?_, k2.grownS hg hne.2.2, k3.set i _, by rw [List.length_set]; exact h1, by rw [List.length_set]; exact h2, h3, by simpa using h4, h5, h6, hB.same hi hx, hT.set hi (by omega)⟩
  have := k1.grownS hg hne.2.1
  rwa [List.length_set]
theorem wpList_store_run {P : Program} {ops : Array Oper} {rest : List Oper} {o : Oper} {a : Act} {w W : World} {Q : Exit → Act → World → Prop} (hgd : o.guard = none) (ty : TypeId) (x y : Operand) (ho : o.op = .store ty x y) (ad : Addr) (cells : Array Value) (hx : a.eval x = .pointer (some ad)) (hy : a.eval y = .agg cells)
    (hr : (storeVar ty ad (.agg cells)).run P w = .ok () W) (h : wpList P ops Q rest (a.put o.dst undef) W) : wpList P ops Q (o :: rest) a w :=
  wpList_plain hgd fun _ hK => by
    unfold Oper.wp execOp
    simp only [ho, hx, hy, Instr.storeAt, Instr.sureAddr, Sem.run_bind, Sem.run_pure, Result.andThen_ok, hr]
    exact hK _ _ h
theorem run_storeVar_at {P : Program} (w : World) (g o : Nat) (t ty : TypeId) (cells cs : Array Value) (l : List Value) (hl : cells.toList = l) (hb : Blk w g t cs) (hs : o + l.length ≤ cs.size) (hi : (P.info? ty).map (·.size) = some l.length) (h1 : ∀ v ∈ l, v.oneCell' = true) :
    (storeVar ty ⟨g, o, none⟩ (.agg cells)).run P w = .ok () (w.setRow g (cs.toList.take o ++ (l ++ cs.toList.drop (o + l.length))).toArray) := by
  subst hl
  have hr := run_storeCells_at P g o t cells.toList 0 cs w hb (by simpa using hs) h1
  cases hq : P.info? ty with
  | none => simp [hq] at hi
  | some i =>
    have hs : cells.size = i.size := by simp [hq] at hi; omega
    simp only [Nat.add_zero, List.append_assoc] at hr
    simp [storeVar, sizeOf, typeInfo, hq, Value.cells, hs]
    simpa [hs] using hr
theorem info_blk : (Try.prog.info? 146).map (·.size) = some 64 := by kernel_rfl
theorem Blk.setRow {w : World} {b : Nat} {t : TypeId} {cs : Array Value} (h : Blk w b t cs) (c : Array Value) : Blk (w.setRow b c) b t c := setRow_heap w b cs c t (0, 0) h
theorem grown_setRow (w : World) (b : Nat) (c : Array Value) : GrownS w (w.setRow b c) (fun k => k = b) := ⟨rfl, rfl, rfl, by simp, fun k _ hk => setRow_other w b k c hk⟩
theorem cells_of (d : List UInt8) : d.map (fun c => Value.int .u8 (c.toNat : Int)) = Lib.byteCells d := rfl
/-- The block's bytes are turned. -/
theorem BAt.put {w : World} {p g h : Nat} {l : BL} (H : BAt w p g h l) {i k : Nat} {x d : List UInt8} (hx : l[i]? = some x) (hl : x.length = 64) (hk : k + d.length ≤ 64) (hne : x ≠ []) {cs : Array Value} (hb : Blk w g 146 cs) :
    BAt (w.setRow g (cs.toList.take (64 * i + k) ++ (Lib.byteCells d ++ cs.toList.drop (64 * i + k + d.length))).toArray) p g h (l.set i (putAt x k d)) := by
  have hn := H.ne
  obtain ⟨hw, c, d', cs', ds, k1, k2, k3, h1, h2, h3, h4, h5, h6, hB, hT⟩ := H
  have e : cs' = cs := by
    have h := k2.symm.trans hb
    injection h with h
    injection h
  subst e
  have hg := grown_setRow w g (cs'.toList.take (64 * i + k) ++ (Lib.byteCells d ++ cs'.toList.drop (64 * i + k + d.length))).toArray
  have hi := (List.getElem?_eq_some_iff.1 hx).1
  have hpl := put_len hl hk
  refine ⟨hw.set _ (.inr hpl), c, d', _, ds, ?_, k2.setRow _, k3.grownS hg (fun e => hn.2.2 e.symm), by rw [List.length_set]; exact h1, by rw [List.length_set]; exact h2, ?_, h4, h5, h6, hB.put hx hl hk (by omega), ?_⟩
  · rw [List.length_set]
    exact k1.grownS hg hn.1
  · simp [Lib.byteCells]
    omega
  · intro m y hm
    rw [List.getElem?_set] at hm
    by_cases em : i = m
    · subst em
      rw [if_pos rfl, if_pos hi] at hm
      cases hm
      have := hT i x hx
      rw [this]
      congr 2
      rw [show x.isEmpty = false by cases x; exact absurd rfl hne; rfl, show (putAt x k d).isEmpty = false by
        cases hq : putAt x k d with
        | nil => rw [hq] at hpl; cases hpl
        | cons => rfl]
    · rw [if_neg em] at hm
      exact hT m y hm
theorem getD_put {l : BL} {i : Nat} {x : List UInt8} (h : l[i]? = some x) : l.set i x = l := by
  apply List.ext_getElem?
  intro j
  rw [List.getElem?_set]
  by_cases e : i = j
  · subst e
    rw [if_pos rfl, if_pos (List.getElem?_eq_some_iff.1 h).1, h]
  · rw [if_neg e]
theorem copy_run (w : World) (p g h : Nat) (l : BL) (H : BAt w p g h l) (i o : Nat) (x d : List UInt8) (hx : l[i]? = some x) (hne : x ≠ []) (hk : o + d.length ≤ 64) (ty : TypeId) :
    ∃ w', (Builtin.copy_ #[55, 9] ty #[.slice (some ⟨g, i * 64 + offs o, none⟩) (64 - o) (64 - o), .string (BA d)]).run Try.prog w = .ok (goInt d.length) w' ∧ BAt w' p g h (l.set i (putAt x o d)) ∧ GrownS w w' (fun k => k = g) := by
  have hl := H.wf.len hx hne
  have hi := (List.getElem?_eq_some_iff.1 hx).1
  by_cases h0 : d.length = 0
  · obtain rfl : d = [] := List.eq_nil_of_length_eq_zero h0
    refine ⟨w, Lib.run_copy_empty_string w _ _ _ 5 _ _ _ _ (by kernel_rfl) (by kernel_rfl) rfl, ?_, grownS_of_below (Below.refl _ _)⟩
    have : putAt x o [] = x := by unfold putAt; simp
    rw [this, getD_put hx]
    exact H
  · have ho : offs o = o := by unfold offs; rw [if_neg (by omega)]
    obtain ⟨cs, hb, hsz⟩ : ∃ cs, Blk w g 146 cs ∧ 64 * l.length ≤ cs.size := by
      obtain ⟨hw, c, d', cs', ds, k1, k2, k3, h1, h2, h3, h4, h5, h6, hB, hT⟩ := H
      exact ⟨cs', k2, by omega⟩
    have hr := Lib.run_copy_row_string (P := Try.prog) w 55 9 ty 5 g (i * 64 + o) (64 - o) (64 - o) (BA d) cs _ (by kernel_rfl) (by kernel_rfl) hb (by rw [BA_size]; omega) (by rw [BA_size]; omega)
    rw [ho]
    refine ⟨_, hr, ?_, grown_setRow _ _ _⟩
    rw [BA_list, BA_size, List.append_assoc, show i * 64 + o = 64 * i + o by omega]
    exact H.put hx hl hk hne hb

theorem zero_run (w : World) (p g h : Nat) (l : BL) (H : BAt w p g h l) (i : Nat) (x : List UInt8) (hx : l[i]? = some x) (hne : x ≠ []) :
    ∃ W, (storeVar 146 ⟨g, i * 64, none⟩ (.agg #[.int .u8 0, .int .u8 0, .int .u8 0, .int .u8 0, .int .u8 0, .int .u8 0, .int .u8 0, .int .u8 0, .int .u8 0, .int .u8 0, .int .u8 0, .int .u8 0, .int .u8 0, .int .u8 0, .int .u8 0, .int .u8 0, .int .u8 0, .int .u8 0, .int .u8 0, .int .u8 0, .int .u8 0, .int .u8 0, .int .u8 0, .int .u8 0, .int .u8 0, .int .u8 0, .int .u8 0, .int .u8 0, .int .u8 0, .int .u8 0, .int .u8 0, .int .u8 0, .int .u8 0, .int .u8 0, .int .u8 0, .int .u8 0, .int .u8 0, .int .u8 0, .int .u8 0, .int .u8 0, .int .u8 0, .int .u8 0, .int .u8 0, .int .u8 0, .int .u8 0, .int .u8 0, .int .u8 0, .int .u8 0, .int .u8 0, .int .u8 0, .int .u8 0, .int .u8 0, .int .u8 0, .int .u8 0, .int .u8 0, .int .u8 0, .int .u8 0, .int .u8 0, .int .u8 0, .int .u8 0, .int .u8 0, .int .u8 0, .int .u8 0, .int .u8 0])).run Try.prog w = .ok () W ∧ BAt W p g h (l.set i z64) ∧ GrownS w W (fun k => k = g) := by
  have hl := H.wf.len hx hne
  have hi := (List.getElem?_eq_some_iff.1 hx).1
  obtain ⟨cs, hb, hsz⟩ : ∃ cs, Blk w g 146 cs ∧ 64 * l.length ≤ cs.size := by
    obtain ⟨hw, c, d', cs', ds, k1, k2, k3, h1, h2, h3, h4, h5, h6, hB, hT⟩ := H
    exact ⟨cs', k2, by omega⟩
  have hz : (#[.int .u8 0, .int .u8 0, .int .u8 0, .int .u8 0, .int .u8 0, .int .u8 0, .int .u8 0, .int .u8 0, .int .u8 0, .int .u8 0, .int .u8 0, .int .u8 0, .int .u8 0, .int .u8 0, .int .u8 0, .int .u8 0, .int .u8 0, .int .u8 0, .int .u8 0, .int .u8 0, .int .u8 0, .int .u8 0, .int .u8 0, .int .u8 0, .int .u8 0, .int .u8 0, .int .u8 0, .int .u8 0, .int .u8 0, .int .u8 0, .int .u8 0, .int .u8 0, .int .u8 0, .int .u8 0, .int .u8 0, .int .u8 0, .int .u8 0, .int .u8 0, .int .u8 0, .int .u8 0, .int .u8 0, .int .u8 0, .int .u8 0, .int .u8 0, .int .u8 0, .int .u8 0, .int .u8 0, .int .u8 0, .int .u8 0, .int .u8 0, .int .u8 0, .int .u8 0, .int .u8 0, .int .u8 0, .int .u8 0, .int .u8 0, .int .u8 0, .int .u8 0, .int .u8 0, .int .u8 0, .int .u8 0, .int .u8 0, .int .u8 0, .int .u8 0] : Array Value).toList = Lib.byteCells z64 := by kernel_rfl
  have hzl : (Lib.byteCells z64).length = 64 := by kernel_rfl
  have hr := run_storeVar_at (P := Try.prog) w g (i * 64) 146 146 _ cs _ hz hb (by rw [hzl]; omega) (by rw [hzl]; exact info_blk) (Lib.byteCells_one _)
  refine ⟨_, hr, ?_, grown_setRow _ _ _⟩
  rw [hzl, show i * 64 = 64 * i + 0 by omega]
  have := H.put (k := 0) (d := z64) hx hl (by simp [z64]) hne hb
  rwa [show putAt x 0 z64 = z64 by unfold putAt; rw [List.drop_of_length_le (by simp [z64]; omega)]; simp] at this

end Go.Proofs.Ytemologkibcdoaa

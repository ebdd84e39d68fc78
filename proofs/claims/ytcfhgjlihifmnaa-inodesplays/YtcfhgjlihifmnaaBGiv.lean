/-
  Give, Write, Free.
-/
import Derived.Test.YtcfhgjlihifmnaaBWr
import Derived.Lib.BufferWrite
import Derived.Deep.WholeRow
namespace Go.Proofs.Ytcfhgjlihifmnaa
open Go.RowKit

theorem BAt.mark {w : World} {p g h : Nat} {l : BL} (H : BAt w p g h l) {i : Nat} {y : List UInt8} (hi : i < l.length) (hy : y = [] ∨ y.length = 64) (hx : ∀ j, j < 64 → y.getD j 0 = bAt l i j) : BAt (w.setCell ⟨h, i, none⟩ (.bool (!y.isEmpty))) p g h (l.set i y) := by
  have hne := H.ne
  obtain ⟨hw, c, d, cs, ds, k1, k2, k3, h1, h2, h3, h4, h5, h6, hB, hT⟩ := H
  have hg := GrownS.of (S := fun k => k = h) (grown_setCell w ⟨h, i, none⟩ (.bool (!y.isEmpty))) (fun k e => by simpa using e)
  refine ⟨hw.set _ hy, c, d, cs, ds.setIfInBounds i (.bool (!y.isEmpty)), ?_, k2.grownS hg hne.2.2, k3.set i _, by rw [List.length_set]; exact h1, by rw [List.length_set]; exact h2, h3, by simpa using h4, h5, h6, hB.same hi hx, hT.set hi (by omega)⟩
  have := k1.grownS hg hne.2.1
  rwa [List.length_set]
theorem wpList_store_run {P : Program} {ops : Array Oper} {rest : List Oper} {o : Oper} {a : Act} {w W : World} {Q : Exit → Act → World → Prop} (hgd : o.guard = none) (ty : TypeId) (x y : Operand) (ho : o.op = .store ty x y) (ad : Addr) (cells : Array Value) (hx : a.eval x = .pointer (some ad)) (hy : a.eval y = .agg cells)
    (hr : (storeVar ty ad (.agg cells)).run P w = .ok () W) (h : wpList P ops Q rest (a.put o.dst undef) W) : wpList P ops Q (o :: rest) a w :=
  wpList_plain hgd fun _ hK => by
    unfold Oper.wp execOp
    simp only [ho, hx, hy, Instr.storeAt, Instr.sureAddr, Sem.run_bind, Sem.run_pure, Result.andThen_ok, hr]
    exact hK _ _ h
theorem run_storeVar_at {P : Program} (w : World) (g o : Nat) (t ty : TypeId) (cells cs : Array Value) (l : List Value) (hl : cells.toList = l) (hb : Blk w g t cs) (hs : o + l.length ≤ cs.size) (hi : (P.info? ty).map (·.size) = some l.length) (h1 : ∀ v ∈ l, v.oneCell' = true) :
    (storeVar ty ⟨g, o, none⟩ (.agg cells)).run P w = .ok () (w.setRow g (cs.toList.take o ++ (l ++ cs.toList.drop (o + l.length))).toArray) := by
  subst hl
  have hr := run_storeCells_at P g o t cells.toList 0 cs w hb (by simpa using hs) h1
  cases hq : P.info? ty with
  | none => simp [hq] at hi
  | some i =>
    have hs : cells.size = i.size := by simp [hq] at hi; omega
    simp only [Nat.add_zero, List.append_assoc] at hr
    simp [storeVar, sizeOf, typeInfo, hq, Value.cells, hs]
    simpa [hs] using hr
theorem info_blk : (Try.prog.info? 93).map (·.size) = some 64 := by kernel_rfl
theorem Blk.setRow {w : World} {b : Nat} {t : TypeId} {cs : Array Value} (h : Blk w b t cs) (c : Array Value) : Blk (w.setRow b c) b t c := setRow_heap w b cs c t (0, 0) h
theorem grown_setRow (w : World) (b : Nat) (c : Array Value) : GrownS w (w.setRow b c) (fun k => k = b) := ⟨rfl, rfl, rfl, by simp, fun k _ hk => setRow_other w b k c hk⟩
theorem cells_of (d : List UInt8) : d.map (fun c => Value.int .u8 (c.toNat : Int)) = Lib.byteCells d := rfl
/-- The block's bytes are turned. -/
theorem BAt.put {w : World} {p g h : Nat} {l : BL} (H : BAt w p g h l) {i k : Nat} {x d : List UInt8} (hx : l[i]? = some x) (hl : x.length = 64) (hk : k + d.length ≤ 64) (hne : x ≠ []) {cs : Array Value} (hb : Blk w g 93 cs) :
    BAt (w.setRow g (cs.toList.take (64 * i + k) ++ (Lib.byteCells d ++ cs.toList.drop (64 * i + k + d.length))).toArray) p g h (l.set i (putAt x k d)) := by
  have hn := H.ne
  obtain ⟨hw, c, d', cs', ds, k1, k2, k3, h1, h2, h3, h4, h5, h6, hB, hT⟩ := H
  have e : cs' = cs := by
    have h := k2.symm.trans hb
    injection h with h
    injection h
  subst e
  have hg := grown_setRow w g (cs'.toList.take (64 * i + k) ++ (Lib.byteCells d ++ cs'.toList.drop (64 * i + k + d.length))).toArray
  have hi := (List.getElem?_eq_some_iff.1 hx).1
  have hpl := put_len hl hk
  refine ⟨hw.set _ (.inr hpl), c, d', _, ds, ?_, k2.setRow _, k3.grownS hg (fun e => hn.2.2 e.symm), by rw [List.length_set]; exact h1, by rw [List.length_set]; exact h2, ?_, h4, h5, h6, hB.put hx hl hk (by omega), ?_⟩
  · rw [List.length_set]
    exact k1.grownS hg hn.1
  · simp [Lib.byteCells]
    omega
  · intro m y hm
    rw [List.getElem?_set] at hm
    by_cases em : i = m
    · subst em
      rw [if_pos rfl, if_pos hi] at hm
      cases hm
      have := hT i x hx
      rw [this]
      congr 2
      rw [show x.isEmpty = false by cases x; exact absurd rfl hne; rfl, show (putAt x k d).isEmpty = false by
        cases hq : putAt x k d with
        | nil => rw [hq] at hpl; cases hpl
        | cons => rfl]
    · rw [if_neg em] at hm
      exact hT m y hm
theorem getD_put {l : BL} {i : Nat} {x : List UInt8} (h : l[i]? = some x) : l.set i x = l := by
  apply List.ext_getElem?
  intro j
  rw [List.getElem?_set]
  by_cases e : i = j
  · subst e
    rw [if_pos rfl, if_pos (List.getElem?_eq_some_iff.1 h).1, h]
  · rw [if_neg e]
theorem copy_run (w : World) (p g h : Nat) (l : BL) (H : BAt w p g h l) (i o : Nat) (x d : List UInt8) (hx : l[i]? = some x) (hne : x ≠ []) (hk : o + d.length ≤ 64) (ty : TypeId) :
    ∃ w', (Builtin.copy_ #[53, 9] ty #[.slice (some ⟨g, i * 64 + offs o, none⟩) (64 - o) (64 - o), .string (BA d)]).run Try.prog w = .ok (goInt d.length) w' ∧ BAt w' p g h (l.set i (putAt x o d)) ∧ GrownS w w' (fun k => k = g) := by
  have hl := H.wf.len hx hne
  have hi := (List.getElem?_eq_some_iff.1 hx).1
  by_cases h0 : d.length = 0
  · obtain rfl : d = [] := List.eq_nil_of_length_eq_zero h0
    refine ⟨w, Lib.run_copy_empty_string w _ _ _ 5 _ _ _ _ (by kernel_rfl) (by kernel_rfl) rfl, ?_, grownS_of_below (Below.refl _ _)⟩
    have : putAt x o [] = x := by unfold putAt; simp
    rw [this, getD_put hx]
    exact H
  · have ho : offs o = o := by unfold offs; rw [if_neg (by omega)]
    obtain ⟨cs, hb, hsz⟩ : ∃ cs, Blk w g 93 cs ∧ 64 * l.length ≤ cs.size := by
      obtain ⟨hw, c, d', cs', ds, k1, k2, k3, h1, h2, h3, h4, h5, h6, hB, hT⟩ := H
      exact ⟨cs', k2, by omega⟩
    have hr := Lib.run_copy_row_string (P := Try.prog) w 53 9 ty 5 g (i * 64 + o) (64 - o) (64 - o) (BA d) cs _ (by kernel_rfl) (by kernel_rfl) hb (by rw [BA_size]; omega) (by rw [BA_size]; omega)
    rw [ho]
    refine ⟨_, hr, ?_, grown_setRow _ _ _⟩
    rw [BA_list, BA_size, List.append_assoc, show i * 64 + o = 64 * i + o by omega]
    exact H.put hx hl hk hne hb

theorem zero_run (w : World) (p g h : Nat) (l : BL) (H : BAt w p g h l) (i : Nat) (x : List UInt8) (hx : l[i]? = some x) (hne : x ≠ []) :
    ∃ W, (storeVar 93 ⟨g, i * 64, none⟩ (.agg #[.int .u8 0, .int .u8 0, .int .u8 0, .int .u8 0, .int .u8 0, .int .u8 0, .int .u8 0, .int .u8 0, .int .u8 0, .int .u8 0, .int .u8 0, .int .u8 0, .int .u8 0, .int .u8 0, .int .u8 0, .int .u8 0, .int .u8 0, .int .u8 0, .int .u8 0, .int .u8 0, .int .u8 0, .int .u8 0, .int .u8 0, .int .u8 0, .int .u8 0, .int .u8 0, .int .u8 0, .int .u8 0, .int .u8 0, .int .u8 0, .int .u8 0, .int .u8 0, .int .u8 0, .int .u8 0, .int .u8 0, .int .u8 0, .int .u8 0, .int .u8 0, .int .u8 0, .int .u8 0, .int .u8 0, .int .u8 0, .int .u8 0, .int .u8 0, .int .u8 0, .int .u8 0, .int .u8 0, .int .u8 0, .int .u8 0, .int .u8 0, .int .u8 0, .int .u8 0, .int .u8 0, .int .u8 0, .int .u8 0, .int .u8 0, .int .u8 0, .int .u8 0, .int .u8 0, .int .u8 0, .int .u8 0, .int .u8 0, .int .u8 0, .int .u8 0])).run Try.prog w = .ok () W ∧ BAt W p g h (l.set i z64) ∧ GrownS w W (fun k => k = g) := by
  have hl := H.wf.len hx hne
  have hi := (List.getElem?_eq_some_iff.1 hx).1
  obtain ⟨cs, hb, hsz⟩ : ∃ cs, Blk w g 93 cs ∧ 64 * l.length ≤ cs.size := by
    obtain ⟨hw, c, d', cs', ds, k1, k2, k3, h1, h2, h3, h4, h5, h6, hB, hT⟩ := H
    exact ⟨cs', k2, by omega⟩
  have hz : (#[.int .u8 0, .int .u8 0, .int .u8 0, .int .u8 0, .int .u8 0, .int .u8 0, .int .u8 0, .int .u8 0, .int .u8 0, .int .u8 0, .int .u8 0, .int .u8 0, .int .u8 0, .int .u8 0, .int .u8 0, .int .u8 0, .int .u8 0, .int .u8 0, .int .u8 0, .int .u8 0, .int .u8 0, .int .u8 0, .int .u8 0, .int .u8 0, .int .u8 0, .int .u8 0, .int .u8 0, .int .u8 0, .int .u8 0, .int .u8 0, .int .u8 0, .int .u8 0, .int .u8 0, .int .u8 0, .int .u8 0, .int .u8 0, .int .u8 0, .int .u8 0, .int .u8 0, .int .u8 0, .int .u8 0, .int .u8 0, .int .u8 0, .int .u8 0, .int .u8 0, .int .u8 0, .int .u8 0, .int .u8 0, .int .u8 0, .int .u8 0, .int .u8 0, .int .u8 0, .int .u8 0, .int .u8 0, .int .u8 0, .int .u8 0, .int .u8 0, .int .u8 0, .int .u8 0, .int .u8 0, .int .u8 0, .int .u8 0, .int .u8 0, .int .u8 0] : Array Value).toList = Lib.byteCells z64 := by kernel_rfl
  have hzl : (Lib.byteCells z64).length = 64 := by kernel_rfl
  have hr := run_storeVar_at (P := Try.prog) w g (i * 64) 93 93 _ cs _ hz hb (by rw [hzl]; omega) (by rw [hzl]; exact info_blk) (Lib.byteCells_one _)
  refine ⟨_, hr, ?_, grown_setRow _ _ _⟩
  rw [hzl, show i * 64 = 64 * i + 0 by omega]
  have := H.put (k := 0) (d := z64) hx hl (by simp [z64]) hne hb
  rwa [show putAt x 0 z64 = z64 by unfold putAt; rw [List.drop_of_length_le (by simp [z64]; omega)]; simp] at this

set_option maxRecDepth 20000 in
set_option maxHeartbeats 1000000 in
theorem write_any (w : World) (p g h : Nat) (l : BL) (b a : Int) (d : List UInt8) (H : BAt w p g h l) (hb : -9223372036854775808 ≤ b ∧ b ≤ 9223372036854775807) (ha : -9223372036854775808 ≤ a ∧ a ≤ 9223372036854775807) :
    Calls Try.prog 59 #[.pointer (some ⟨p, 0, none⟩), .int .i64 b, .int .i64 a, .string (BA d)] w fun e w' => e = .returned (.int .i64 (writeE l b a d)) ∧ BAt w' p g h (writeL l b a d) ∧ GrownS w w' (fun k => k = g) := by
  have HH := hide H
  have HF := hide (find_any w p g h l b H hb)
  have HW := hide (within_any a d.length w ha)
  cases ht : tkn l b with
  | false =>
    rw [fndV_no ht] at HF
    rw [show writeE l b a d = 23 by unfold writeE; rw [ht]; rfl, show writeL l b a d = l by unfold writeL; rw [ht]; rfl]
    clear ht H
    go_enter Try.func59, Try.ntmps59
    go_wp2_with fail
    refine (unhide HF).mono ?_
    rintro e w1 ⟨rfl, hw1⟩
    rw [show w1 = w from hw1]
    clear hw1
    go_wp2
    go_ret
    exact ⟨rfl, unhide HH, grownS_of_below (Below.refl _ _)⟩
  | true =>
    obtain ⟨i, x, rfl, hi, hx, hne, e1, e2⟩ := tkn_some ht
    rw [fndV_of ht e1] at HF
    cases hin : inB a d.length with
    | false =>
      rw [hin] at HW
      rw [show writeE l ((i : Int) + 1) a d = 1 by unfold writeE; rw [ht, hin]; rfl, show writeL l ((i : Int) + 1) a d = l by unfold writeL; rw [ht, hin]; rfl]
      clear ht H hin e1 e2 hx
      go_enter Try.func59, Try.ntmps59
      go_wp2_with fail
      refine (unhide HF).mono ?_
      rintro e w1 ⟨rfl, hw1⟩
      rw [show w1 = w from hw1]
      clear hw1
      go_wp2_with fail
      refine (unhide HW).mono ?_
      rintro e w1 ⟨rfl, hw1⟩
      rw [show w1 = w from hw1]
      clear hw1
      go_wp2
      go_ret
      exact ⟨rfl, unhide HH, grownS_of_below (Below.refl _ _)⟩
    | true =>
      rw [hin] at HW
      obtain ⟨h1, h2, h3⟩ := inB_some hin
      obtain ⟨o, rfl⟩ : ∃ o : Nat, a = o := ⟨a.toNat, by omega⟩
      rw [show writeE l ((i : Int) + 1) o d = 0 by unfold writeE; rw [ht, hin]; rfl, show writeL l ((i : Int) + 1) o d = l.set i (putAt x o d) by unfold writeL; rw [ht, hin, e1, e2]; rfl]
      have HS := hide (slice_l w g (i * 64) o (by omega))
      have HC := hide (copy_run w p g h l H i o x d hx hne (by omega))
      clear ht hin e1 e2 hx hne h3 H HH
      go_enter Try.func59, Try.ntmps59
      go_wp2_with fail
      refine (unhide HF).mono ?_
      rintro e w1 ⟨rfl, hw1⟩
      rw [show w1 = w from hw1]
      clear hw1
      go_wp2_with fail
      refine (unhide HW).mono ?_
      rintro e w1 ⟨rfl, hw1⟩
      rw [show w1 = w from hw1]
      clear hw1
      have hs := unhide HS
      obtain ⟨W, hc, HBW⟩ := unhide HC 3
      have HBW := hide HBW
      go_wp2
      go_ret
      exact ⟨rfl, unhide HBW⟩

set_option maxRecDepth 20000 in
set_option maxHeartbeats 1000000 in
theorem give_any (w : World) (p g h : Nat) (l : BL) (b : Int) (H : BAt w p g h l) (hb : -9223372036854775808 ≤ b ∧ b ≤ 9223372036854775807) :
    Calls Try.prog 65 #[.pointer (some ⟨p, 0, none⟩), .int .i64 b] w fun e w' => e = .returned (.int .i64 (giveE l b)) ∧ BAt w' p g h (giveL l b) ∧ GrownS w w' (fun k => k = g ∨ k = h) := by
  have HH := hide H
  have HF := hide (find_any w p g h l b H hb)
  cases ht : tkn l b with
  | false =>
    rw [fndV_no ht] at HF
    rw [show giveE l b = 23 by unfold giveE; rw [ht]; rfl, show giveL l b = l by unfold giveL; rw [ht]; rfl]
    clear ht H
    go_enter Try.func65, Try.ntmps65
    go_wp2_with fail
    refine (unhide HF).mono ?_
    rintro e w1 ⟨rfl, hw1⟩
    rw [show w1 = w from hw1]
    clear hw1
    go_wp2
    go_ret
    exact ⟨rfl, unhide HH, grownS_of_below (Below.refl _ _)⟩
  | true =>
    obtain ⟨i, x, rfl, hi, hx, hne, e1, e2⟩ := tkn_some ht
    rw [fndV_of ht e1] at HF
    rw [show giveE l ((i : Int) + 1) = 0 by unfold giveE; rw [ht]; rfl, show giveL l ((i : Int) + 1) = l.set i [] by unfold giveL; rw [ht, e1]; rfl]
    clear ht e1 e2
    obtain ⟨W, hz, hBW, hGW⟩ := zero_run w p g h l H i x hx hne
    have HZ := hide hz
    have HR : Hid (BAt (W.setCell ⟨h, i, none⟩ (.bool false)) p g h (l.set i []) ∧ GrownS w (W.setCell ⟨h, i, none⟩ (.bool false)) (fun k => k = g ∨ k = h)) := hide (by
      have h1 := hBW.mark (i := i) (y := []) (by simpa using hi) (.inl rfl) (fun j hj => by rw [bAt_set hi, if_pos rfl, z64_at]; rfl)
      rw [List.set_set] at h1
      exact ⟨h1, (hGW.mono (fun k _ e => .inl e)).trans ((GrownS.of (S := fun k => k = h) (grown_setCell W ⟨h, i, none⟩ (.bool false)) (fun k e => by simpa using e)).mono (fun k _ e => .inr e))⟩)
    obtain ⟨_, c, d, cs, ds, k1, k2, k3, h1, h2, h3, h4, h5, h6, hB, hT⟩ := hBW
    rw [List.length_set] at k1
    have q1 := k1.cell 1 rfl
    have c2 := k3.cell i (hT i z64 (by rw [List.getElem?_set, if_pos rfl, if_pos hi]))
    have f2 := k3.frozen i
    have q0 := (H.lies)
    obtain ⟨n, hn⟩ : ∃ n, n = l.length := ⟨_, rfl⟩
    rw [← hn] at q1 hi
    have hi1 : (i : Int) < (n : Int) := by omega
    clear q0 hn H HH hx hne hB hT k1 k2 k3 hz hGW h1 h2
    go_enter Try.func65, Try.ntmps65
    go_wp2_with fail
    refine (unhide HF).mono ?_
    rintro e w1 ⟨rfl, hw1⟩
    rw [show w1 = w from hw1]
    clear hw1
    go_wp2_with (refine wpList_store_run rfl _ _ _ rfl _ _ rfl rfl (unhide HZ) ?_)
    go_ret
    exact ⟨rfl, unhide HR⟩

end Go.Proofs.Ytcfhgjlihifmnaa

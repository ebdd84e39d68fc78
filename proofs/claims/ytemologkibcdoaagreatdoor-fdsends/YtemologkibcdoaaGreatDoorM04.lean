/-
  Free, New.
  slices.Clone, Copy.
-/
import Derived.Test.YtemologkibcdoaaGreatDoorM03
import Derived.Laws.MakeOwn
import Derived.Deep.AppendLies
import Derived.Deep.RegionHeld3

/- Free, New. -/
namespace Go.Proofs.YtemologkibcdoaaGreatDoor
open Go.RowKit

theorem count_take {l : BL} {k : Nat} {x : List UInt8} (h : l[k]? = some x) : (l.take (k + 1)).countP (·.isEmpty) = (l.take k).countP (·.isEmpty) + (if x.isEmpty then 1 else 0) := by
  rw [List.take_add_one, h, List.countP_append]
  simp [List.countP_cons]

set_option maxRecDepth 20000 in
set_option maxHeartbeats 1000000 in
theorem free_any (w : World) (p g h : Nat) (l : BL) (H : BAt w p g h l) : Calls Tryz.prog 53 #[.pointer (some ⟨p, 0, none⟩)] w fun e w' => e = .returned (.int .i64 (freeN l : Int)) ∧ w' = w := by
  obtain ⟨hw, c, d, cs, ds, k1, k2, k3, h1, h2, h3, h4, h5, h6, hB, hT⟩ := H
  have hmx := hw.max
  have q1 := k1.cell 1 rfl
  obtain ⟨n, hn⟩ : ∃ n, n = l.length := ⟨_, rfl⟩
  rw [← hn] at q1 h1 h2 hmx
  have HN := hide hn
  have HT := hide hT
  have HK := hide k3
  obtain ⟨r, hr⟩ : ∃ r : Int, r = (freeN l : Int) := ⟨_, rfl⟩
  rw [← hr]
  have HR := hide hr
  clear hn hT hB k1 k2 k3 hr
  go_enter Tryz.func53, Tryz.ntmps53
  go_wp2
  go_loop [3, 13] (fun f i => ∃ k m : Nat, i = .int .i64 k ∧ f = .int .i64 m ∧ k ≤ n ∧ m ≤ k ∧ Hid (m = (l.take k).countP (·.isEmpty))) (fun _ i => n - (intOf i).toNat)
  case atStart => exact ⟨0, 0, rfl, rfl, Nat.zero_le _, Nat.le_refl _, hide rfl⟩
  case round =>
    obtain ⟨k, m, rfl, rfl, hk, hm, HM⟩ := hrel
    by_cases hlt : k < n
    · obtain ⟨x, hx⟩ : ∃ x, l[k]? = some x := ⟨_, List.getElem?_eq_getElem (by have := unhide HN; omega)⟩
      have c1 := (unhide HK).cell k (unhide HT k x hx)
      have hk1 : (k : Int) < (n : Int) := by omega
      have hk0 : (0 : Int) ≤ (k : Int) := by omega
      have HC := hide (count_take hx)
      clear hx
      cases hxe : x.isEmpty with
      | true =>
        rw [hxe] at c1 HC
        clear hxe
        go_wp2
        go_round
        case rel => exact ⟨k + 1, m + 1, by go_num, by go_num, by omega, by omega, hide (by rw [unhide HC, ← unhide HM]; rfl)⟩
        case measure => simp [intOf]; omega
      | false =>
        rw [hxe] at c1 HC
        clear hxe
        go_wp2
        go_round
        case rel => exact ⟨k + 1, m, by go_num, rfl, by omega, by omega, hide (by rw [unhide HC, ← unhide HM]; rfl)⟩
        case measure => simp [intOf]; omega
    · have HE : Hid (k = n) := hide (by omega)
      go_wp2
      go_ret
      refine ⟨ret_int ?_, rfl⟩
      have h1 := unhide HM
      rw [List.take_of_length_le (by have := unhide HN; have := unhide HE; omega)] at h1
      rw [unhide HR, freeN, ← h1]

theorem info2 {t : TypeId} {z : Option Value} {a c : Nat} (h : (Tryz.prog.info? t).map (fun i => (i.zero, i.size, i.bytes)) = some (z, a, c)) : ∃ i, Tryz.prog.info? t = some i ∧ i.zero = z ∧ i.size = a ∧ i.bytes = c := by
  cases hi : Tryz.prog.info? t with
  | none => rw [hi] at h; cases h
  | some i =>
    rw [hi] at h
    simp at h
    exact ⟨i, rfl, h.1, h.2.1, h.2.2⟩
def zarr : Array Value := (Lib.byteCells z64).toArray
theorem made_at (z : Array Value) (m k : Nat) (hk : k < m) {v : Value} (hz : ∀ j, j < z.size → z[j]? = some v) (hp : 0 < z.size) : (madeCells z m)[k]? = some v := by
  unfold madeCells
  have h1 : k % z.size < z.size := Nat.mod_lt _ hp
  have h2 := hz _ h1
  rw [Array.getElem?_eq_getElem h1] at h2
  simp at h2
  simp [hk, h1, h2]
theorem mk_bytes (n : Nat) (hn : n ≤ 4096) : ∃ cs : Array Value, cs.size = n * 64 ∧ Bytes (List.replicate n []) cs ∧ ∀ u : World, (Instr.makeSlice 163 (.int .i64 (n : Int)) (.int .i64 (n : Int))).run Tryz.prog u = .ok (.slice (some ⟨u.heap.size, 0, none⟩) n n) (u.alloc (.cells cs 246)) := by
  obtain ⟨i, hi, hz, hs, hb⟩ := info2 (t := 246) (z := some (.agg zarr)) (a := 64) (c := 64) (by kernel_rfl)
  refine ⟨madeCells zarr (n * 64), size_madeCells _ _, ?_, fun u => ?_⟩
  · intro k j hk hj
    rw [List.length_replicate] at hk
    have hb0 : bAt (List.replicate n []) k j = 0 := by
      unfold bAt
      rw [List.getD_eq_getElem?_getD (l := List.replicate n []), List.getElem?_replicate]
      split <;> rfl
    rw [hb0]
    refine made_at _ _ _ (by omega) (fun m hm => ?_) (by decide +kernel)
    have hm : m < 64 := by simpa [zarr, Lib.byteCells, z64] using hm
    show ((z64.map (fun c => Value.int .u8 (c.toNat : Int))).toArray)[m]? = _
    rw [List.getElem?_toArray, List.getElem?_map]
    unfold z64
    rw [List.getElem?_replicate, if_pos hm]
    rfl
  · have := run_make (P := Tryz.prog) u 163 246 i (.agg zarr) (by kernel_rfl) hi hz .i64 .i64 n n (by omega) (Int.le_refl _) (by rw [hb]; omega) (by omega)
    rw [hs] at this
    simpa [Value.cells] using this
theorem mk_takens (n : Nat) (hn : n ≤ 4096) : ∃ cs : Array Value, cs.size = n ∧ Takens (List.replicate n []) cs ∧ ∀ u : World, (Instr.makeSlice 164 (.int .i64 (n : Int)) (.int .i64 (n : Int))).run Tryz.prog u = .ok (.slice (some ⟨u.heap.size, 0, none⟩) n n) (u.alloc (.cells cs 4)) := by
  obtain ⟨i, hi, hz, hs, hb⟩ := info2 (t := 4) (z := some (.bool false)) (a := 1) (c := 1) (by kernel_rfl)
  refine ⟨madeCells #[.bool false] n, size_madeCells _ _, ?_, fun u => ?_⟩
  · intro k x hx
    obtain ⟨hk, rfl⟩ := List.getElem?_eq_some_iff.1 hx
    rw [List.length_replicate] at hk
    refine made_at _ _ _ hk (fun m hm => ?_) (by decide)
    match m, hm with
    | 0, _ => simp
  · have := run_make (P := Tryz.prog) u 164 4 i (.bool false) (by kernel_rfl) hi hz .i64 .i64 n n (by omega) (Int.le_refl _) (by rw [hb]; omega) (by omega)
    rw [hs] at this
    simpa [Value.cells] using this
theorem wf_new {n : Nat} (h1 : 1 ≤ n) (h2 : n ≤ 4096) : Wf (List.replicate n []) :=
  ⟨fun x hx => .inl (List.eq_of_mem_replicate hx), by simpa using h1, by simpa using h2⟩

theorem lies_new {w : World} {n p g h : Nat} {cs ds : Array Value} (h1 : 1 ≤ n) (h2 : n ≤ 4096) (hc : cs.size = n * 64) (hd : ds.size = n) (hB : Bytes (List.replicate n []) cs) (hT : Takens (List.replicate n []) ds)
    (kp : Blk w p 166 #[.slice (some ⟨g, 0, none⟩) n n, .slice (some ⟨h, 0, none⟩) n n]) (kg : Blk w g 246 cs) (kh : Blk w h 4 ds) : BAt w p g h (List.replicate n []) := by
  have hm : (4096 : Nat) ≤ maxLen := by decide
  refine ⟨wf_new h1 h2, n, n, cs, ds, ?_, kg, kh, by simp, by simp, hc, hd, by omega, by omega, hB, hT⟩
  rw [List.length_replicate]
  exact kp

set_option maxRecDepth 20000 in
theorem new_no (n : Int) (w : World) (h : n < 1 ∨ 4096 < n) : Calls Tryz.prog 94 #[.int .i64 n] w fun e w' => e = .returned (.tuple #[.pointer none, .int .i64 1]) ∧ w' = w := by
  by_cases h1 : n < 1
  · go_enter Tryz.func94, Tryz.ntmps94
    go_wp2
    go_ret2
    exact ⟨rfl, rfl⟩
  · have h2 : 4096 < n := by omega
    go_enter Tryz.func94, Tryz.ntmps94
    go_wp2
    go_ret2
    exact ⟨rfl, rfl⟩

set_option maxRecDepth 20000 in
set_option maxHeartbeats 1000000 in
theorem new_any (n : Nat) (w : World) (h1 : 1 ≤ n) (h2 : n ≤ 4096) : Calls Tryz.prog 94 #[.int .i64 (n : Int)] w fun e w' => ∃ p g h, e = .returned (.tuple #[.pointer (some ⟨p, 0, none⟩), .int .i64 0]) ∧ BAt w' p g h (List.replicate n []) ∧ Below w.heap.size w w' ∧ w.heap.size ≤ p ∧ w.heap.size ≤ g ∧ w.heap.size ≤ h := by
  obtain ⟨cs, hc1, hB, mk1⟩ := mk_bytes n h2
  obtain ⟨ds, hd1, hT, mk2⟩ := mk_takens n h2
  have HB := hide hB
  have HT := hide hT
  have HC := hide hc1
  have HD := hide hd1
  clear hB hT hc1 hd1
  have n1 : ¬ (n : Int) < 1 := by omega
  have n2 : ¬ (4096 : Int) < (n : Int) := by omega
  go_enter Tryz.func94, Tryz.ntmps94
  go_wp2_with fail
  go_region
  · have HR : Hid (BAt (((w.alloc (Obj.cells cs 246)).alloc (Obj.cells ds 4)).alloc (Obj.cells #[Value.slice (some ⟨w.heap.size, 0, none⟩) n n, Value.slice (some ⟨w.heap.size + 1, 0, none⟩) n n] 166)).drew (w.heap.size + 1 + 1) w.heap.size (w.heap.size + 1) (List.replicate n []) ∧ Below w.heap.size w (((w.alloc (Obj.cells cs 246)).alloc (Obj.cells ds 4)).alloc (Obj.cells #[Value.slice (some ⟨w.heap.size, 0, none⟩) n n, Value.slice (some ⟨w.heap.size + 1, 0, none⟩) n n] 166)).drew) := hide (by
      have hb := ((((Below.refl _ w).alloc (Nat.le_refl _) (Obj.cells cs 246)).alloc (by simp) (Obj.cells ds 4)).alloc (by simp; omega) (Obj.cells #[Value.slice (some ⟨w.heap.size, 0, none⟩) n n, Value.slice (some ⟨w.heap.size + 1, 0, none⟩) n n] 166))
      refine ⟨BAt.below (lies_new h1 h2 (unhide HC) (unhide HD) (unhide HB) (unhide HT) ?_ (((Blk.new w _ cs).alloc _).alloc _) ?_) (below_drew _ 1), hb.trans ((below_drew _ 1).mono hb.size)⟩
      · have := Blk.new ((w.alloc (Obj.cells cs 246)).alloc (Obj.cells ds 4)) 166 #[Value.slice (some ⟨w.heap.size, 0, none⟩) n n, Value.slice (some ⟨w.heap.size + 1, 0, none⟩) n n]
        simpa using this
      · have := (Blk.new (w.alloc (Obj.cells cs 246)) 4 ds).alloc (Obj.cells #[Value.slice (some ⟨w.heap.size, 0, none⟩) n n, Value.slice (some ⟨w.heap.size + 1, 0, none⟩) n n] 166)
        simpa using this)
    go_wp2
    go_ret2
    exact ⟨_, _, _, rfl, (unhide HR).1, (unhide HR).2, by omega, by omega, by omega⟩
  · have HR : Hid (BAt (((w.alloc (Obj.cells ds 4)).alloc (Obj.cells cs 246)).alloc (Obj.cells #[Value.slice (some ⟨w.heap.size + 1, 0, none⟩) n n, Value.slice (some ⟨w.heap.size, 0, none⟩) n n] 166)).drew (w.heap.size + 1 + 1) (w.heap.size + 1) w.heap.size (List.replicate n []) ∧ Below w.heap.size w (((w.alloc (Obj.cells ds 4)).alloc (Obj.cells cs 246)).alloc (Obj.cells #[Value.slice (some ⟨w.heap.size + 1, 0, none⟩) n n, Value.slice (some ⟨w.heap.size, 0, none⟩) n n] 166)).drew) := hide (by
      have hb := ((((Below.refl _ w).alloc (Nat.le_refl _) (Obj.cells ds 4)).alloc (by simp) (Obj.cells cs 246)).alloc (by simp; omega) (Obj.cells #[Value.slice (some ⟨w.heap.size + 1, 0, none⟩) n n, Value.slice (some ⟨w.heap.size, 0, none⟩) n n] 166))
      refine ⟨BAt.below (lies_new h1 h2 (unhide HC) (unhide HD) (unhide HB) (unhide HT) ?_ ?_ (((Blk.new w _ ds).alloc _).alloc _)) (below_drew _ 1), hb.trans ((below_drew _ 1).mono hb.size)⟩
      · have := Blk.new ((w.alloc (Obj.cells ds 4)).alloc (Obj.cells cs 246)) 166 #[Value.slice (some ⟨w.heap.size + 1, 0, none⟩) n n, Value.slice (some ⟨w.heap.size, 0, none⟩) n n]
        simpa using this
      · have := (Blk.new (w.alloc (Obj.cells ds 4)) 246 cs).alloc (Obj.cells #[Value.slice (some ⟨w.heap.size + 1, 0, none⟩) n n, Value.slice (some ⟨w.heap.size, 0, none⟩) n n] 166)
        simpa using this)
    go_wp2
    go_ret2
    exact ⟨_, _, _, rfl, (unhide HR).1, (unhide HR).2, by omega, by omega, by omega⟩

end Go.Proofs.YtemologkibcdoaaGreatDoor

/- slices.Clone, Copy. -/
namespace Go.Proofs.YtemologkibcdoaaGreatDoor
open Go.RowKit

theorem wpList_append_run {P : Program} {ops : Array Oper} {rest : List Oper} {o : Oper} {a : Act} {w W : World} {Q : Exit → Act → World → Prop} (hgd : o.guard = none) (s x : Operand) (t : TypeId)
    (ho : o.op = .call { callee := .builtin .append, args := #[s, x], argTypes := #[t, t] }) (u v r : Value) (hs : a.eval s = u) (hx : a.eval x = v) (hr : ∀ ty, (Builtin.append_ #[t, t] ty #[u, v]).run P w = .ok r W)
    (h : wpList P ops Q rest (a.put o.dst r) W) : wpList P ops Q (o :: rest) a w :=
  wpList_plain hgd fun _ hK => by
    unfold Oper.wp execOp
    simp only [ho, resolve, invoke, builtin, Sem.run_bind, Sem.run_pure, Result.andThen_ok, List.map_toArray, List.map_cons, List.map_nil, hs, hx, hr]
    exact hK _ _ h
theorem own_le {w : World} {base base' sz n : Nat} {e : TypeId} {v : Value} {xs : List Value} (h : w.ownsRow base' e sz v n xs) (hb : base ≤ base') : w.ownsRow base e sz v n xs := by
  obtain ⟨h0, h1 | ⟨g, cap, cur, h1, h2, h3⟩⟩ := h
  · exact ⟨h0, .inl h1⟩
  · exact ⟨h0, .inr ⟨g, cap, cur, h1, Nat.le_trans hb h2, h3⟩⟩
/-- A store of two rows that are known. -/
theorem lies_copy {w : World} {p base : Nat} {l : BL} {v u : Value} {cs ds : Array Value} (hw : Wf l) (hB : Bytes l cs) (hT : Takens l ds) (h1 : w.ownsRow base 246 64 v l.length (cs.toList.take (l.length * 64))) (h2 : w.ownsRow base 4 1 u l.length (ds.toList.take (l.length * 1)))
    (kp : Blk w p 166 #[v, u]) : ∃ g h, BAt w p g h l ∧ base ≤ g ∧ base ≤ h := by
  have hp := hw.pos
  obtain ⟨hl1, ⟨_, h0⟩ | ⟨g, cap, cur, rfl, hbg, hg, hnc, hcm, hcs, htake⟩⟩ := h1
  · omega
  obtain ⟨hl2, ⟨_, h0⟩ | ⟨h, cap2, cur2, rfl, hbh, hh, hnc2, hcm2, hcs2, htake2⟩⟩ := h2
  · omega
  refine ⟨g, h, ⟨hw, cap, cap2, cur, cur2, kp, hg, hh, hnc, hnc2, hcs, by omega, hcm, hcm2, fun i j hi hj => ?_, fun i x hx => ?_⟩, hbg, hbh⟩
  · have h3 := hB i j hi hj
    have h4 : (cur.toList.take (l.length * 64))[64 * i + j]? = (cs.toList.take (l.length * 64))[64 * i + j]? := by rw [htake]
    rw [List.getElem?_take, List.getElem?_take, if_pos (by omega), if_pos (by omega)] at h4
    simpa using h4.trans (by simpa using h3)
  · have hi := (List.getElem?_eq_some_iff.1 hx).1
    have h3 := hT i x hx
    have h4 : (cur2.toList.take (l.length * 1))[i]? = (ds.toList.take (l.length * 1))[i]? := by rw [htake2]
    rw [List.getElem?_take, List.getElem?_take, if_pos (by omega), if_pos (by omega)] at h4
    simpa using h4.trans (by simpa using h3)
theorem bytes_one {l : BL} {cs : Array Value} (hB : Bytes l cs) : ∀ u ∈ cs.toList.take (l.length * 64), u.oneCell' = true := by
  intro u hu
  obtain ⟨k, hk⟩ := List.getElem?_of_mem hu
  rw [List.getElem?_take] at hk
  split at hk
  · rename_i hk2
    have h1 := hB (k / 64) (k % 64) (by omega) (by omega)
    rw [show 64 * (k / 64) + k % 64 = k by omega] at h1
    rw [Array.getElem?_toList, h1] at hk
    cases hk
    rfl
  · cases hk
theorem takens_one {l : BL} {cs : Array Value} (hT : Takens l cs) : ∀ u ∈ cs.toList.take (l.length * 1), u.oneCell' = true := by
  intro u hu
  obtain ⟨k, hk⟩ := List.getElem?_of_mem hu
  rw [List.getElem?_take] at hk
  split at hk
  · rename_i hk2
    have h1 := hT k _ (List.getElem?_eq_getElem (by omega))
    rw [Array.getElem?_toList, h1] at hk
    cases hk
    rfl
  · cases hk

end Go.Proofs.YtemologkibcdoaaGreatDoor

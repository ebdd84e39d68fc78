/-
  Free, New.
  slices.Clone, Copy.
  A table of nodes: what it has, and what each call makes of it.
-/
import Derived.Test.YtnpeiibecihleaaGreatDoorM02
import Derived.Laws.MakeOwn
import Derived.Deep.AppendLies
import Derived.Deep.RegionHeld3
/- Free, New. -/
namespace Go.Proofs.YtnpeiibecihleaaGreatDoor
open Go.RowKit

theorem count_take {l : BL} {k : Nat} {x : List UInt8} (h : l[k]? = some x) : (l.take (k + 1)).countP (·.isEmpty) = (l.take k).countP (·.isEmpty) + (if x.isEmpty then 1 else 0) := by
  rw [List.take_add_one, h, List.countP_append]
  simp [List.countP_cons]

set_option maxRecDepth 20000 in
set_option maxHeartbeats 1000000 in
theorem free_any (w : World) (p g h : Nat) (l : BL) (H : BAt w p g h l) : Calls Tryz.prog 103 #[.pointer (some ⟨p, 0, none⟩)] w fun e w' => e = .returned (.int .i64 (freeN l : Int)) ∧ w' = w := by
  obtain ⟨hw, c, d, cs, ds, k1, k2, k3, h1, h2, h3, h4, h5, h6, hB, hT⟩ := H
  have hmx := hw.max
  have q1 := k1.cell 1 rfl
  obtain ⟨n, hn⟩ : ∃ n, n = l.length := ⟨_, rfl⟩
  rw [← hn] at q1 h1 h2 hmx
  have HN := hide hn
  have HT := hide hT
  have HK := hide k3
  obtain ⟨r, hr⟩ : ∃ r : Int, r = (freeN l : Int) := ⟨_, rfl⟩
  rw [← hr]
  have HR := hide hr
  clear hn hT hB k1 k2 k3 hr
  go_enter Tryz.func103, Tryz.ntmps103
  go_wp2
  go_loop [3, 13] (fun f i => ∃ k m : Nat, i = .int .i64 k ∧ f = .int .i64 m ∧ k ≤ n ∧ m ≤ k ∧ Hid (m = (l.take k).countP (·.isEmpty))) (fun _ i => n - (intOf i).toNat)
  case atStart => exact ⟨0, 0, rfl, rfl, Nat.zero_le _, Nat.le_refl _, hide rfl⟩
  case round =>
    obtain ⟨k, m, rfl, rfl, hk, hm, HM⟩ := hrel
    by_cases hlt : k < n
    · obtain ⟨x, hx⟩ : ∃ x, l[k]? = some x := ⟨_, List.getElem?_eq_getElem (by have := unhide HN; omega)⟩
      have c1 := (unhide HK).cell k (unhide HT k x hx)
      have hk1 : (k : Int) < (n : Int) := by omega
      have hk0 : (0 : Int) ≤ (k : Int) := by omega
      have HC := hide (count_take hx)
      clear hx
      cases hxe : x.isEmpty with
      | true =>
        rw [hxe] at c1 HC
        clear hxe
        go_wp2
        go_round
        case rel => exact ⟨k + 1, m + 1, by go_num, by go_num, by omega, by omega, hide (by rw [unhide HC, ← unhide HM]; rfl)⟩
        case measure => simp [intOf]; omega
      | false =>
        rw [hxe] at c1 HC
        clear hxe
        go_wp2
        go_round
        case rel => exact ⟨k + 1, m, by go_num, rfl, by omega, by omega, hide (by rw [unhide HC, ← unhide HM]; rfl)⟩
        case measure => simp [intOf]; omega
    · have HE : Hid (k = n) := hide (by omega)
      go_wp2
      go_ret
      refine ⟨ret_int ?_, rfl⟩
      have h1 := unhide HM
      rw [List.take_of_length_le (by have := unhide HN; have := unhide HE; omega)] at h1
      rw [unhide HR, freeN, ← h1]

theorem info2 {t : TypeId} {z : Option Value} {a c : Nat} (h : (Tryz.prog.info? t).map (fun i => (i.zero, i.size, i.bytes)) = some (z, a, c)) : ∃ i, Tryz.prog.info? t = some i ∧ i.zero = z ∧ i.size = a ∧ i.bytes = c := by
  cases hi : Tryz.prog.info? t with
  | none => rw [hi] at h; cases h
  | some i =>
    rw [hi] at h
    simp at h
    exact ⟨i, rfl, h.1, h.2.1, h.2.2⟩
def zarr : Array Value := (Lib.byteCells z64).toArray
theorem made_at (z : Array Value) (m k : Nat) (hk : k < m) {v : Value} (hz : ∀ j, j < z.size → z[j]? = some v) (hp : 0 < z.size) : (madeCells z m)[k]? = some v := by
  unfold madeCells
  have h1 : k % z.size < z.size := Nat.mod_lt _ hp
  have h2 := hz _ h1
  rw [Array.getElem?_eq_getElem h1] at h2
  simp at h2
  simp [hk, h1, h2]
theorem mk_bytes (n : Nat) (hn : n ≤ 4096) : ∃ cs : Array Value, cs.size = n * 64 ∧ Bytes (List.replicate n []) cs ∧ ∀ u : World, (Instr.makeSlice 167 (.int .i64 (n : Int)) (.int .i64 (n : Int))).run Tryz.prog u = .ok (.slice (some ⟨u.heap.size, 0, none⟩) n n) (u.alloc (.cells cs 208)) := by
  obtain ⟨i, hi, hz, hs, hb⟩ := info2 (t := 208) (z := some (.agg zarr)) (a := 64) (c := 64) (by kernel_rfl)
  refine ⟨madeCells zarr (n * 64), size_madeCells _ _, ?_, fun u => ?_⟩
  · intro k j hk hj
    rw [List.length_replicate] at hk
    have hb0 : bAt (List.replicate n []) k j = 0 := by
      unfold bAt
      rw [List.getD_eq_getElem?_getD (l := List.replicate n []), List.getElem?_replicate]
      split <;> rfl
    rw [hb0]
    refine made_at _ _ _ (by omega) (fun m hm => ?_) (by decide +kernel)
    have hm : m < 64 := by simpa [zarr, Lib.byteCells, z64] using hm
    show ((z64.map (fun c => Value.int .u8 (c.toNat : Int))).toArray)[m]? = _
    rw [List.getElem?_toArray, List.getElem?_map]
    unfold z64
    rw [List.getElem?_replicate, if_pos hm]
    rfl
  · have := run_make (P := Tryz.prog) u 167 208 i (.agg zarr) (by kernel_rfl) hi hz .i64 .i64 n n (by omega) (Int.le_refl _) (by rw [hb]; omega) (by omega)
    rw [hs] at this
    simpa [Value.cells] using this
theorem mk_takens (n : Nat) (hn : n ≤ 4096) : ∃ cs : Array Value, cs.size = n ∧ Takens (List.replicate n []) cs ∧ ∀ u : World, (Instr.makeSlice 67 (.int .i64 (n : Int)) (.int .i64 (n : Int))).run Tryz.prog u = .ok (.slice (some ⟨u.heap.size, 0, none⟩) n n) (u.alloc (.cells cs 4)) := by
  obtain ⟨i, hi, hz, hs, hb⟩ := info2 (t := 4) (z := some (.bool false)) (a := 1) (c := 1) (by kernel_rfl)
  refine ⟨madeCells #[.bool false] n, size_madeCells _ _, ?_, fun u => ?_⟩
  · intro k x hx
    obtain ⟨hk, rfl⟩ := List.getElem?_eq_some_iff.1 hx
    rw [List.length_replicate] at hk
    refine made_at _ _ _ hk (fun m hm => ?_) (by decide)
    match m, hm with
    | 0, _ => simp
  · have := run_make (P := Tryz.prog) u 67 4 i (.bool false) (by kernel_rfl) hi hz .i64 .i64 n n (by omega) (Int.le_refl _) (by rw [hb]; omega) (by omega)
    rw [hs] at this
    simpa [Value.cells] using this
theorem wf_new {n : Nat} (h1 : 1 ≤ n) (h2 : n ≤ 4096) : Wf (List.replicate n []) :=
  ⟨fun x hx => .inl (List.eq_of_mem_replicate hx), by simpa using h1, by simpa using h2⟩

theorem lies_new {w : World} {n p g h : Nat} {cs ds : Array Value} (h1 : 1 ≤ n) (h2 : n ≤ 4096) (hc : cs.size = n * 64) (hd : ds.size = n) (hB : Bytes (List.replicate n []) cs) (hT : Takens (List.replicate n []) ds)
    (kp : Blk w p 169 #[.slice (some ⟨g, 0, none⟩) n n, .slice (some ⟨h, 0, none⟩) n n]) (kg : Blk w g 208 cs) (kh : Blk w h 4 ds) : BAt w p g h (List.replicate n []) := by
  have hm : (4096 : Nat) ≤ maxLen := by decide
  refine ⟨wf_new h1 h2, n, n, cs, ds, ?_, kg, kh, by simp, by simp, hc, hd, by omega, by omega, hB, hT⟩
  rw [List.length_replicate]
  exact kp

set_option maxRecDepth 20000 in
theorem new_no (n : Int) (w : World) (h : n < 1 ∨ 4096 < n) : Calls Tryz.prog 116 #[.int .i64 n] w fun e w' => e = .returned (.tuple #[.pointer none, .int .i64 1]) ∧ w' = w := by
  by_cases h1 : n < 1
  · go_enter Tryz.func116, Tryz.ntmps116
    go_wp2
    go_ret2
    exact ⟨rfl, rfl⟩
  · have h2 : 4096 < n := by omega
    go_enter Tryz.func116, Tryz.ntmps116
    go_wp2
    go_ret2
    exact ⟨rfl, rfl⟩

set_option maxRecDepth 20000 in
set_option maxHeartbeats 1000000 in
theorem new_any (n : Nat) (w : World) (h1 : 1 ≤ n) (h2 : n ≤ 4096) : Calls Tryz.prog 116 #[.int .i64 (n : Int)] w fun e w' => ∃ p g h, e = .returned (.tuple #[.pointer (some ⟨p, 0, none⟩), .int .i64 0]) ∧ BAt w' p g h (List.replicate n []) ∧ Below w.heap.size w w' ∧ w.heap.size ≤ p ∧ w.heap.size ≤ g ∧ w.heap.size ≤ h := by
  obtain ⟨cs, hc1, hB, mk1⟩ := mk_bytes n h2
  obtain ⟨ds, hd1, hT, mk2⟩ := mk_takens n h2
  have HB := hide hB
  have HT := hide hT
  have HC := hide hc1
  have HD := hide hd1
  clear hB hT hc1 hd1
  have n1 : ¬ (n : Int) < 1 := by omega
  have n2 : ¬ (4096 : Int) < (n : Int) := by omega
  go_enter Tryz.func116, Tryz.ntmps116
  go_wp2_with fail
  go_region
  · have HR : Hid (BAt (((w.alloc (Obj.cells cs 208)).alloc (Obj.cells ds 4)).alloc (Obj.cells #[Value.slice (some ⟨w.heap.size, 0, none⟩) n n, Value.slice (some ⟨w.heap.size + 1, 0, none⟩) n n] 169)).drew (w.heap.size + 1 + 1) w.heap.size (w.heap.size + 1) (List.replicate n []) ∧ Below w.heap.size w (((w.alloc (Obj.cells cs 208)).alloc (Obj.cells ds 4)).alloc (Obj.cells #[Value.slice (some ⟨w.heap.size, 0, none⟩) n n, Value.slice (some ⟨w.heap.size + 1, 0, none⟩) n n] 169)).drew) := hide (by
      have hb := ((((Below.refl _ w).alloc (Nat.le_refl _) (Obj.cells cs 208)).alloc (by simp) (Obj.cells ds 4)).alloc (by simp; omega) (Obj.cells #[Value.slice (some ⟨w.heap.size, 0, none⟩) n n, Value.slice (some ⟨w.heap.size + 1, 0, none⟩) n n] 169))
      refine ⟨BAt.below (lies_new h1 h2 (unhide HC) (unhide HD) (unhide HB) (unhide HT) ?_ (((Blk.new w _ cs).alloc _).alloc _) ?_) (below_drew _ 1), hb.trans ((below_drew _ 1).mono hb.size)⟩
      · have := Blk.new ((w.alloc (Obj.cells cs 208)).alloc (Obj.cells ds 4)) 169 #[Value.slice (some ⟨w.heap.size, 0, none⟩) n n, Value.slice (some ⟨w.heap.size + 1, 0, none⟩) n n]
        simpa using this
      · have := (Blk.new (w.alloc (Obj.cells cs 208)) 4 ds).alloc (Obj.cells #[Value.slice (some ⟨w.heap.size, 0, none⟩) n n, Value.slice (some ⟨w.heap.size + 1, 0, none⟩) n n] 169)
        simpa using this)
    go_wp2
    go_ret2
    exact ⟨_, _, _, rfl, (unhide HR).1, (unhide HR).2, by omega, by omega, by omega⟩
  · have HR : Hid (BAt (((w.alloc (Obj.cells ds 4)).alloc (Obj.cells cs 208)).alloc (Obj.cells #[Value.slice (some ⟨w.heap.size + 1, 0, none⟩) n n, Value.slice (some ⟨w.heap.size, 0, none⟩) n n] 169)).drew (w.heap.size + 1 + 1) (w.heap.size + 1) w.heap.size (List.replicate n []) ∧ Below w.heap.size w (((w.alloc (Obj.cells ds 4)).alloc (Obj.cells cs 208)).alloc (Obj.cells #[Value.slice (some ⟨w.heap.size + 1, 0, none⟩) n n, Value.slice (some ⟨w.heap.size, 0, none⟩) n n] 169)).drew) := hide (by
      have hb := ((((Below.refl _ w).alloc (Nat.le_refl _) (Obj.cells ds 4)).alloc (by simp) (Obj.cells cs 208)).alloc (by simp; omega) (Obj.cells #[Value.slice (some ⟨w.heap.size + 1, 0, none⟩) n n, Value.slice (some ⟨w.heap.size, 0, none⟩) n n] 169))
      refine ⟨BAt.below (lies_new h1 h2 (unhide HC) (unhide HD) (unhide HB) (unhide HT) ?_ ?_ (((Blk.new w _ ds).alloc _).alloc _)) (below_drew _ 1), hb.trans ((below_drew _ 1).mono hb.size)⟩
      · have := Blk.new ((w.alloc (Obj.cells ds 4)).alloc (Obj.cells cs 208)) 169 #[Value.slice (some ⟨w.heap.size + 1, 0, none⟩) n n, Value.slice (some ⟨w.heap.size, 0, none⟩) n n]
        simpa using this
      · have := (Blk.new (w.alloc (Obj.cells ds 4)) 208 cs).alloc (Obj.cells #[Value.slice (some ⟨w.heap.size + 1, 0, none⟩) n n, Value.slice (some ⟨w.heap.size, 0, none⟩) n n] 169)
        simpa using this)
    go_wp2
    go_ret2
    exact ⟨_, _, _, rfl, (unhide HR).1, (unhide HR).2, by omega, by omega, by omega⟩

end Go.Proofs.YtnpeiibecihleaaGreatDoor

/- slices.Clone, Copy. -/
namespace Go.Proofs.YtnpeiibecihleaaGreatDoor
open Go.RowKit

theorem wpList_append_run {P : Program} {ops : Array Oper} {rest : List Oper} {o : Oper} {a : Act} {w W : World} {Q : Exit → Act → World → Prop} (hgd : o.guard = none) (s x : Operand) (t : TypeId)
    (ho : o.op = .call { callee := .builtin .append, args := #[s, x], argTypes := #[t, t] }) (u v r : Value) (hs : a.eval s = u) (hx : a.eval x = v) (hr : ∀ ty, (Builtin.append_ #[t, t] ty #[u, v]).run P w = .ok r W)
    (h : wpList P ops Q rest (a.put o.dst r) W) : wpList P ops Q (o :: rest) a w :=
  wpList_plain hgd fun _ hK => by
    unfold Oper.wp execOp
    simp only [ho, resolve, invoke, builtin, Sem.run_bind, Sem.run_pure, Result.andThen_ok, List.map_toArray, List.map_cons, List.map_nil, hs, hx, hr]
    exact hK _ _ h
theorem own_le {w : World} {base base' sz n : Nat} {e : TypeId} {v : Value} {xs : List Value} (h : w.ownsRow base' e sz v n xs) (hb : base ≤ base') : w.ownsRow base e sz v n xs := by
  obtain ⟨h0, h1 | ⟨g, cap, cur, h1, h2, h3⟩⟩ := h
  · exact ⟨h0, .inl h1⟩
  · exact ⟨h0, .inr ⟨g, cap, cur, h1, Nat.le_trans hb h2, h3⟩⟩
/-- A store of two rows that are known. -/
theorem lies_copy {w : World} {p base : Nat} {l : BL} {v u : Value} {cs ds : Array Value} (hw : Wf l) (hB : Bytes l cs) (hT : Takens l ds) (h1 : w.ownsRow base 208 64 v l.length (cs.toList.take (l.length * 64))) (h2 : w.ownsRow base 4 1 u l.length (ds.toList.take (l.length * 1)))
    (kp : Blk w p 169 #[v, u]) : ∃ g h, BAt w p g h l ∧ base ≤ g ∧ base ≤ h := by
  have hp := hw.pos
  obtain ⟨hl1, ⟨_, h0⟩ | ⟨g, cap, cur, rfl, hbg, hg, hnc, hcm, hcs, htake⟩⟩ := h1
  · omega
  obtain ⟨hl2, ⟨_, h0⟩ | ⟨h, cap2, cur2, rfl, hbh, hh, hnc2, hcm2, hcs2, htake2⟩⟩ := h2
  · omega
  refine ⟨g, h, ⟨hw, cap, cap2, cur, cur2, kp, hg, hh, hnc, hnc2, hcs, by omega, hcm, hcm2, fun i j hi hj => ?_, fun i x hx => ?_⟩, hbg, hbh⟩
  · have h3 := hB i j hi hj
    have h4 : (cur.toList.take (l.length * 64))[64 * i + j]? = (cs.toList.take (l.length * 64))[64 * i + j]? := by rw [htake]
    rw [List.getElem?_take, List.getElem?_take, if_pos (by omega), if_pos (by omega)] at h4
    simpa using h4.trans (by simpa using h3)
  · have hi := (List.getElem?_eq_some_iff.1 hx).1
    have h3 := hT i x hx
    have h4 : (cur2.toList.take (l.length * 1))[i]? = (ds.toList.take (l.length * 1))[i]? := by rw [htake2]
    rw [List.getElem?_take, List.getElem?_take, if_pos (by omega), if_pos (by omega)] at h4
    simpa using h4.trans (by simpa using h3)
theorem bytes_one {l : BL} {cs : Array Value} (hB : Bytes l cs) : ∀ u ∈ cs.toList.take (l.length * 64), u.oneCell' = true := by
  intro u hu
  obtain ⟨k, hk⟩ := List.getElem?_of_mem hu
  rw [List.getElem?_take] at hk
  split at hk
  · rename_i hk2
    have h1 := hB (k / 64) (k % 64) (by omega) (by omega)
    rw [show 64 * (k / 64) + k % 64 = k by omega] at h1
    rw [Array.getElem?_toList, h1] at hk
    cases hk
    rfl
  · cases hk
theorem takens_one {l : BL} {cs : Array Value} (hT : Takens l cs) : ∀ u ∈ cs.toList.take (l.length * 1), u.oneCell' = true := by
  intro u hu
  obtain ⟨k, hk⟩ := List.getElem?_of_mem hu
  rw [List.getElem?_take] at hk
  split at hk
  · rename_i hk2
    have h1 := hT k _ (List.getElem?_eq_getElem (by omega))
    rw [Array.getElem?_toList, h1] at hk
    cases hk
    rfl
  · cases hk

end Go.Proofs.YtnpeiibecihleaaGreatDoor

/- A table of nodes: what it has, and what each call makes of it. -/
namespace Go.Proofs.YtnpeiibecihleaaGreatDoor
open Go.RowKit

/-- A node: its kind, its names and users, how many bytes it has, what they are (0 behind them), which of its parts have a block. -/
structure Nd where
  kind : Nat
  names : Nat
  users : Nat
  size : Nat
  byt : Nat → UInt8
  has : Nat → Bool
abbrev TB := List (Option Nd)
def cnt (h : Nat → Bool) : Nat := (List.range 64).countP h
def usd (o : Option Nd) : Nat := match o with | none => 0 | some x => cnt x.has
def usedT (T : TB) : Nat := (T.map usd).sum
structure Nd.Good (x : Nd) : Prop where
  kind1 : 1 ≤ x.kind
  kind3 : x.kind ≤ 3
  size : x.size ≤ 4096
  zero : ∀ j, x.size ≤ j → x.byt j = 0
  has : ∀ k, x.has k = true → 64 * k < x.size
/-- The node of a number. -/
def ndAt (T : TB) (i : Int) : Option Nd := if 1 ≤ i then (T[(i - 1).toNat]?).join else none
theorem ndAt_some {T : TB} {i : Int} {x : Nd} (h : ndAt T i = some x) : ∃ k : Nat, i = (k : Int) + 1 ∧ T[k]? = some (some x) ∧ k < T.length := by
  unfold ndAt at h
  split at h
  · refine ⟨(i - 1).toNat, by omega, ?_, ?_⟩
    · rcases h2 : T[(i - 1).toNat]? with _ | o
      · rw [h2] at h; cases h
      · rw [h2] at h
        rw [show o = some x from h]
    · rcases Nat.lt_or_ge (i - 1).toNat T.length with h3 | h3
      · exact h3
      · rw [List.getElem?_eq_none h3] at h
        cases h
  · cases h
theorem ndAt_of {T : TB} {k : Nat} {o : Option Nd} (h : T[k]? = some o) : ndAt T ((k : Int) + 1) = o := by
  unfold ndAt
  rw [if_pos (by omega), show ((k : Int) + 1 - 1).toNat = k by omega, h]
  rfl
theorem ndAt_none {T : TB} {i : Int} (h : ndAt T i = none) : i < 1 ∨ (T.length : Int) < i ∨ ∃ k : Nat, i = (k : Int) + 1 ∧ T[k]? = some none ∧ k < T.length := by
  by_cases h1 : i < 1
  · exact .inl h1
  · by_cases h2 : (T.length : Int) < i
    · exact .inr (.inl h2)
    · refine .inr (.inr ⟨(i - 1).toNat, by omega, ?_, by omega⟩)
      unfold ndAt at h
      rw [if_pos (by omega)] at h
      have h3 : (i - 1).toNat < T.length := by omega
      rw [List.getElem?_eq_getElem h3] at h ⊢
      exact congrArg some h
/-- The place of a node's number. -/
def plc (i : Int) : Nat := (i - 1).toNat
theorem plc_of (k : Nat) : plc ((k : Int) + 1) = k := by unfold plc; omega

/-- What a node's bytes are. -/
def datOf (x : Nd) : List UInt8 := (List.range x.size).map x.byt
theorem datOf_len (x : Nd) : (datOf x).length = x.size := by simp [datOf]
theorem datOf_get (x : Nd) (j : Nat) (h : j < x.size) : (datOf x)[j]? = some (x.byt j) := by
  unfold datOf
  rw [List.getElem?_map, List.getElem?_range h]
  rfl
def nd0 (kind : Nat) : Nd := ⟨kind, 0, 0, 0, fun _ => 0, fun _ => false⟩
def kindOf (o : Option Nd) : Nat := match o with | none => 0 | some x => x.kind
def sizeOfN (o : Option Nd) : Nat := match o with | none => 0 | some x => x.size
def namesOf (o : Option Nd) : Nat := match o with | none => 0 | some x => x.names

def frAt (T : TB) : Nat := T.findIdx (·.isNone)
def kindOk (k : Int) : Bool := decide (1 ≤ k) && decide (k ≤ 3)
def makeN (T : TB) (k : Int) : Int := if kindOk k && decide (frAt T < T.length) then (frAt T : Int) + 1 else 0
def makeE (T : TB) (k : Int) : Int := if kindOk k then (if frAt T < T.length then 0 else 21) else 1
def makeT (T : TB) (k : Int) : TB := if kindOk k && decide (frAt T < T.length) then T.set (frAt T) (some (nd0 k.toNat)) else T
/-- A node that has neither names nor users is no more. -/
def leftN (x : Nd) : Option Nd := if x.names = 0 ∧ x.users = 0 then none else some x
def tieN (x : Nd) : Nd := { x with names := x.names + 1 }
def holdN (x : Nd) : Nd := { x with users := x.users + 1 }
def untN (x : Nd) : Nd := { x with names := x.names - 1 }
def looN (x : Nd) : Nd := { x with users := x.users - 1 }
def tieT (T : TB) (i : Int) : TB := match ndAt T i with | none => T | some x => T.set (plc i) (some (tieN x))
def holdT (T : TB) (i : Int) : TB := match ndAt T i with | none => T | some x => T.set (plc i) (some (holdN x))
def tieE (T : TB) (i : Int) : Int := match ndAt T i with | none => 23 | some _ => 0
def untT (T : TB) (i : Int) : TB := match ndAt T i with | none => T | some x => if x.names = 0 then T else T.set (plc i) (leftN (untN x))
def looT (T : TB) (i : Int) : TB := match ndAt T i with | none => T | some x => if x.users = 0 then T else T.set (plc i) (leftN (looN x))
def untE (T : TB) (i : Int) : Int := match ndAt T i with | none => 23 | some x => if x.names = 0 then 23 else 0
def looE (T : TB) (i : Int) : Int := match ndAt T i with | none => 23 | some x => if x.users = 0 then 23 else 0
def rdT (T : TB) (i a n : Int) : List UInt8 := match ndAt T i with | none => [] | some x => if a < 0 ∨ n < 0 then [] else ((datOf x).drop a.toNat).take n.toNat
def rdE (T : TB) (i a n : Int) : Int := match ndAt T i with | none => 23 | some _ => if a < 0 ∨ n < 0 then 1 else 0
def cutN (x : Nd) (s : Nat) : Nd := { x with size := s, byt := fun j => if j < s then x.byt j else 0, has := fun k => x.has k && decide (64 * k < s) }
def cutE (T : TB) (i s : Int) : Int := match ndAt T i with | none => 23 | some _ => if s < 0 then 1 else if 4096 < s then 3 else 0
def cutT (T : TB) (i s : Int) : TB := match ndAt T i with | none => T | some x => if s < 0 ∨ 4096 < s then T else T.set (plc i) (some (cutN x s.toNat))
/-- The parts that have a block when 'done' bytes from 'a' on are written. -/
def hasP (h : Nat → Bool) (a done : Nat) : Nat → Bool := fun k => h k || (decide (0 < done) && decide (a / 64 ≤ k) && decide (64 * k < a + done))
/-- As many bytes of n are written from a on, 'free' blocks being free. -/
structure PutSp (h : Nat → Bool) (free a n done : Nat) : Prop where
  le : done ≤ n
  max : a + done ≤ 4096
  room : cnt (hasP h a done) ≤ free + cnt h
  ends : done = n ∨ (cnt (hasP h a done) = free + cnt h ∧ h ((a + done) / 64) = false ∧ (done = 0 ∨ (a + done) % 64 = 0))
def putN (x : Nd) (a : Nat) (d : List UInt8) (done : Nat) : Nd :=
  { x with size := Nat.max x.size (a + done), byt := fun j => if a ≤ j ∧ j < a + done then d.getD (j - a) 0 else x.byt j, has := hasP x.has a done }
/-- What Write answers and leaves. -/
inductive WrSp (T : TB) (free : Nat) (i a : Int) (d : List UInt8) : Int → Int → TB → Prop
  | none : ndAt T i = none → WrSp T free i a d 0 23 T
  | arg (x : Nd) : ndAt T i = some x → a < 0 → WrSp T free i a d 0 1 T
  | empty (x : Nd) : ndAt T i = some x → 0 ≤ a → d = [] → WrSp T free i a d 0 0 T
  | big (x : Nd) : ndAt T i = some x → 4096 ≤ a → d ≠ [] → WrSp T free i a d 0 3 T
  | space (x : Nd) (at' : Nat) : ndAt T i = some x → a = at' → at' < 4096 → d ≠ [] → PutSp x.has free at' (min d.length (4096 - at')) 0 → WrSp T free i a d 0 20 T
  | done (x : Nd) (at' n : Nat) : ndAt T i = some x → a = at' → at' < 4096 → d ≠ [] → 0 < n → PutSp x.has free at' (min d.length (4096 - at')) n → WrSp T free i a d n 0 (T.set (plc i) (some (putN x at' d n)))

theorem cnt_le (h : Nat → Bool) : cnt h ≤ 64 := by
  have := List.countP_le_length (p := h) (l := List.range 64)
  simpa [cnt] using this
theorem cnt_mono {h h' : Nat → Bool} (H : ∀ k, h k = true → h' k = true) : cnt h ≤ cnt h' := by
  unfold cnt
  exact List.countP_mono_left (fun k _ => H k)
theorem cnt_range_upd (h : Nat → Bool) (k : Nat) (v : Bool) : ∀ n, k < n → (List.range n).countP (fun j => if j = k then v else h j) + (if h k then 1 else 0) = (List.range n).countP h + (if v then 1 else 0)
  | 0, hk => by omega
  | n + 1, hk => by
    rw [List.range_succ, List.countP_append, List.countP_append, List.countP_singleton, List.countP_singleton]
    by_cases e : k = n
    · subst e
      rw [if_pos rfl]
      have h1 : (List.range k).countP (fun j => if j = k then v else h j) = (List.range k).countP h := by
        apply List.countP_congr
        intro j hj
        rw [if_neg (by have := List.mem_range.1 hj; omega)]
      rw [h1]
      omega
    · rw [show (if n = k then v else h n) = h n from if_neg (fun h2 => e h2.symm)]
      have := cnt_range_upd h k v n (by omega)
      omega
/-- One part comes to have a block, or loses it. -/
theorem cnt_upd (h : Nat → Bool) (k : Nat) (v : Bool) (hk : k < 64) : cnt (fun j => if j = k then v else h j) + (if h k then 1 else 0) = cnt h + (if v then 1 else 0) := cnt_range_upd h k v 64 hk
theorem usedT_set (T : TB) (i : Nat) (o o' : Option Nd) (h : T[i]? = some o) : usedT (T.set i o') + usd o = usedT T + usd o' := by
  unfold usedT
  induction T generalizing i with
  | nil => simp at h
  | cons a T ih =>
    cases i with
    | zero =>
      simp at h
      subst h
      simp
      omega
    | succ i =>
      simp at h
      have := ih i h
      simp only [List.set_cons_succ, List.map_cons, List.sum_cons]
      omega
theorem usd_le {T : TB} {i : Nat} {o : Option Nd} (h : T[i]? = some o) : usd o ≤ usedT T := by
  have := usedT_set T i o none h
  simp [usd] at this
  unfold usd at *
  omega
theorem usedT_none (n : Nat) : usedT (List.replicate n none) = 0 := by
  unfold usedT
  rw [List.map_replicate]
  simp [usd]

theorem PutSp.uniq {h : Nat → Bool} {free a n d1 d2 : Nat} (h1 : PutSp h free a n d1) (h2 : PutSp h free a n d2) : d1 = d2 := by
  have key : ∀ d1 d2, PutSp h free a n d1 → PutSp h free a n d2 → ¬ d1 < d2 := by
    intro d1 d2 h1 h2 hlt
    rcases h1.ends with e | ⟨e1, e2, e3⟩
    · have := h2.le; omega
    · have hb := h2.room
      have hmx := h2.max
      have hk : (a + d1) / 64 < 64 := by omega
      have hno : hasP h a d1 ((a + d1) / 64) = false := by
        unfold hasP
        rw [e2]
        simp only [Bool.false_or, Bool.and_eq_false_iff, decide_eq_false_iff_not]
        rcases e3 with e3 | e3
        · exact .inl (.inl (by omega))
        · exact .inr (by omega)
      have hle : cnt (fun j => if j = (a + d1) / 64 then true else hasP h a d1 j) ≤ cnt (hasP h a d2) := by
        apply cnt_mono
        intro k hk2
        by_cases ek : k = (a + d1) / 64
        · subst ek
          unfold hasP
          rw [e2]
          simp
          omega
        · rw [if_neg ek] at hk2
          unfold hasP at hk2 ⊢
          simp only [Bool.or_eq_true, Bool.and_eq_true, decide_eq_true_eq] at hk2 ⊢
          rcases hk2 with hk2 | hk2
          · exact .inl hk2
          · exact .inr (by omega)
      have := cnt_upd (hasP h a d1) ((a + d1) / 64) true hk
      rw [hno, if_neg (by decide), if_pos rfl] at this
      omega
  rcases Nat.lt_trichotomy d1 d2 with h3 | h3 | h3
  · exact absurd h3 (key _ _ h1 h2)
  · exact h3
  · exact absurd h3 (key _ _ h2 h1)
theorem hasP_zero (h : Nat → Bool) (a : Nat) : hasP h a 0 = h := by
  funext k
  simp [hasP]

theorem nd0_good {k : Int} (h : kindOk k = true) : (nd0 k.toNat).Good := by
  unfold kindOk at h
  simp only [Bool.and_eq_true, decide_eq_true_eq] at h
  exact ⟨show 1 ≤ k.toNat by omega, show k.toNat ≤ 3 by omega, Nat.zero_le _, fun _ _ => rfl, fun _ h => (by cases h)⟩
theorem Nd.Good.cut {x : Nd} (h : x.Good) {s : Nat} (hs : s ≤ 4096) : (cutN x s).Good :=
  ⟨h.kind1, h.kind3, hs, fun j hj => if_neg (by exact Nat.not_lt.2 hj), fun k hk => by simp [cutN] at hk ⊢; exact hk.2⟩
theorem Nd.Good.put {x : Nd} (h : x.Good) {a n : Nat} {d : List UInt8} (hm : a + n ≤ 4096) : (putN x a d n).Good := by
  refine ⟨h.kind1, h.kind3, Nat.max_le.2 ⟨h.size, hm⟩, fun j hj => ?_, fun k hk => ?_⟩
  · have hj : Nat.max x.size (a + n) ≤ j := hj
    have h1 := Nat.max_le.1 hj
    show (if a ≤ j ∧ j < a + n then _ else _) = _
    rw [if_neg (by omega)]
    exact h.zero j h1.1
  · show 64 * k < Nat.max x.size (a + n)
    have hk : hasP x.has a n k = true := hk
    unfold hasP at hk
    simp only [Bool.or_eq_true, Bool.and_eq_true, decide_eq_true_eq] at hk
    rcases hk with hk | hk
    · exact Nat.lt_of_lt_of_le (h.has k hk) (Nat.le_max_left _ _)
    · exact Nat.lt_of_lt_of_le hk.2 (Nat.le_max_right _ _)
/-- Every node of a table is as it should be; no node has more than n names or users. -/
def TGood (T : TB) (n : Nat) : Prop := ∀ (i : Nat) (x : Nd), T[i]? = some (some x) → x.Good ∧ x.names ≤ n ∧ x.users ≤ n
theorem TGood.set {T : TB} {n : Nat} (h : TGood T n) (i : Nat) {o : Option Nd} (ho : ∀ x : Nd, o = some x → x.Good ∧ x.names ≤ n ∧ x.users ≤ n) : TGood (T.set i o) n := by
  intro j x hj
  rw [List.getElem?_set] at hj
  split at hj
  · split at hj
    · injection hj with hj
      exact ho x hj
    · cases hj
  · exact h j x hj
theorem TGood.mono {T : TB} {n m : Nat} (h : TGood T n) (hm : n ≤ m) : TGood T m := fun i x hx => ⟨(h i x hx).1, Nat.le_trans (h i x hx).2.1 hm, Nat.le_trans (h i x hx).2.2 hm⟩

end Go.Proofs.YtnpeiibecihleaaGreatDoor

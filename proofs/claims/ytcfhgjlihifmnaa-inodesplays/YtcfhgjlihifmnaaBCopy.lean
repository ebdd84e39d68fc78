/-
  slices.Clone, Copy.
-/
import Derived.Test.YtcfhgjlihifmnaaBNew
import Derived.Deep.AppendLies
import Derived.Deep.RegionHeld3
namespace Go.Proofs.Ytcfhgjlihifmnaa
open Go.RowKit

theorem wpList_append_run {P : Program} {ops : Array Oper} {rest : List Oper} {o : Oper} {a : Act} {w W : World} {Q : Exit → Act → World → Prop} (hgd : o.guard = none) (s x : Operand) (t : TypeId)
    (ho : o.op = .call { callee := .builtin .append, args := #[s, x], argTypes := #[t, t] }) (u v r : Value) (hs : a.eval s = u) (hx : a.eval x = v) (hr : ∀ ty, (Builtin.append_ #[t, t] ty #[u, v]).run P w = .ok r W)
    (h : wpList P ops Q rest (a.put o.dst r) W) : wpList P ops Q (o :: rest) a w :=
  wpList_plain hgd fun _ hK => by
    unfold Oper.wp execOp
    simp only [ho, resolve, invoke, builtin, Sem.run_bind, Sem.run_pure, Result.andThen_ok, List.map_toArray, List.map_cons, List.map_nil, hs, hx, hr]
    exact hK _ _ h
/-- What a row of a known block becomes behind an empty one. -/
theorem clone_run (w : World) (t e z : TypeId) (i : TypeInfo) (zv : Value) (size bytes : Nat) (ht : Try.prog.underlying t = some (.slice e)) (hi : Try.prog.info? e = some i) (hz : i.zero = some zv) (hs : i.size = size) (hb : i.bytes = bytes) (hzs : zv.cells.size = size) (hsz : 0 < size)
    (g c n : Nat) (cs : Array Value) (k : Blk w g z cs) (hc : n * size ≤ cs.size) (hn : n ≤ 4096) (hby : bytes ≤ 64) (h1 : 1 ≤ n) (ho : ∀ u ∈ cs.toList.take (n * size), u.oneCell' = true) :
    ∃ g' cap W, (∀ ty, (Builtin.append_ #[t, t] ty #[.slice (some ⟨w.heap.size, 0, none⟩) 0 0, .slice (some ⟨g, 0, none⟩) n c]).run Try.prog (w.alloc (.cells #[] e)) = .ok (.slice (some ⟨g', 0, none⟩) n cap) W) ∧ W.ownsRow w.heap.size e size (.slice (some ⟨g', 0, none⟩) n cap) n (cs.toList.take (n * size)) ∧ Below w.heap.size w W := by
  have hB : n * bytes ≤ 4096 * 64 := Nat.mul_le_mul hn hby
  obtain ⟨g', cap, W, hr, h2, h3, h4, h5⟩ := run_append_lies (P := Try.prog) (w.alloc (.cells #[] e)) t 0 w.heap.size e i zv size bytes ht hi hz hs hb hzs hsz (.slice (some ⟨w.heap.size, 0, none⟩) 0 0) 0 [] ⟨by simp, .inr ⟨w.heap.size, 0, #[], rfl, Nat.le_refl _, Blk.new w e #[], Nat.le_refl _, Nat.zero_le _, by simp, by simp⟩⟩
    ⟨g, 0, none⟩ n c (cs.toList.take (n * size)) (by simp; omega) (fun j u hj => by
      rw [add_o, Nat.zero_add]
      refine (k.alloc _).cell j ?_
      rw [List.getElem?_take] at hj
      split at hj
      · simpa using hj
      · cases hj) ho (by omega) (by have : (4096 : Nat) ≤ maxLen := by decide
                                    omega) (by rw [Nat.zero_add]; omega) (by simp) _ rfl
  rw [Nat.zero_add] at hr h2
  refine ⟨g', cap, W, fun ty => hr, by simpa using h2, ?_⟩
  refine ((Below.refl _ w).alloc (Nat.le_refl _) _).trans ⟨h3.os, h3.tape, h3.output, h3.size, fun b hb => h3.block b (by simp; omega) (by simp [Value.ownBlock]; omega)⟩

set_option maxRecDepth 20000 in
set_option maxHeartbeats 1000000 in
theorem clone_bytes (w : World) (g c n : Nat) (cs : Array Value) (k : Blk w g 93 cs) (hc : n * 64 ≤ cs.size) (hn : n ≤ 4096) (h1 : 1 ≤ n) (ho : ∀ u ∈ cs.toList.take (n * 64), u.oneCell' = true) :
    Calls Try.prog 56 #[.slice (some ⟨g, 0, none⟩) n c] w fun e w' => ∃ v, e = .returned v ∧ w'.ownsRow w.heap.size 93 64 v n (cs.toList.take (n * 64)) ∧ Below w.heap.size w w' := by
  obtain ⟨i, hi, hz, hs, hb⟩ := info2 (t := 93) (z := some (.agg zarr)) (a := 64) (c := 64) (by kernel_rfl)
  obtain ⟨g', cap, W, hr, h2, h3⟩ := clone_run w 90 93 _ i (.agg zarr) 64 64 (by kernel_rfl) hi hz hs hb (by kernel_rfl) (by decide) g c n cs k hc hn (by decide) h1 ho
  have HR := hide hr
  have H2 := hide h2
  have H3 := hide h3
  have heq : (binOp .eql 90 (.slice (some ⟨g, 0, none⟩) n c) (.slice none 0 0)).run Try.prog w = .ok (.bool false) w := by kernel_rfl
  clear hi hz hs hb k ho hr h2 h3
  go_enter Try.func56, Try.ntmps56
  go_wp2_with (at_builtin; refine wpList_append_run rfl _ _ _ rfl _ _ _ rfl rfl (unhide HR) ?_)
  go_ret
  exact ⟨_, rfl, unhide H2, unhide H3⟩
set_option maxRecDepth 20000 in
set_option maxHeartbeats 1000000 in
theorem clone_takens (w : World) (g c n : Nat) (cs : Array Value) (k : Blk w g 4 cs) (hc : n * 1 ≤ cs.size) (hn : n ≤ 4096) (h1 : 1 ≤ n) (ho : ∀ u ∈ cs.toList.take (n * 1), u.oneCell' = true) :
    Calls Try.prog 57 #[.slice (some ⟨g, 0, none⟩) n c] w fun e w' => ∃ v, e = .returned v ∧ w'.ownsRow w.heap.size 4 1 v n (cs.toList.take (n * 1)) ∧ Below w.heap.size w w' := by
  obtain ⟨i, hi, hz, hs, hb⟩ := info2 (t := 4) (z := some (.bool false)) (a := 1) (c := 1) (by kernel_rfl)
  obtain ⟨g', cap, W, hr, h2, h3⟩ := clone_run w 42 4 _ i (.bool false) 1 1 (by kernel_rfl) hi hz hs hb (by kernel_rfl) (by decide) g c n cs k hc hn (by decide) h1 ho
  have HR := hide hr
  have H2 := hide h2
  have H3 := hide h3
  have heq : (binOp .eql 42 (.slice (some ⟨g, 0, none⟩) n c) (.slice none 0 0)).run Try.prog w = .ok (.bool false) w := by kernel_rfl
  clear hi hz hs hb k ho hr h2 h3
  go_enter Try.func57, Try.ntmps57
  go_wp2_with (at_builtin; refine wpList_append_run rfl _ _ _ rfl _ _ _ rfl rfl (unhide HR) ?_)
  go_ret
  exact ⟨_, rfl, unhide H2, unhide H3⟩

theorem own_le {w : World} {base base' sz n : Nat} {e : TypeId} {v : Value} {xs : List Value} (h : w.ownsRow base' e sz v n xs) (hb : base ≤ base') : w.ownsRow base e sz v n xs := by
  obtain ⟨h0, h1 | ⟨g, cap, cur, h1, h2, h3⟩⟩ := h
  · exact ⟨h0, .inl h1⟩
  · exact ⟨h0, .inr ⟨g, cap, cur, h1, Nat.le_trans hb h2, h3⟩⟩
/-- A store of two rows that are known. -/
theorem lies_copy {w : World} {p base : Nat} {l : BL} {v u : Value} {cs ds : Array Value} (hw : Wf l) (hB : Bytes l cs) (hT : Takens l ds) (h1 : w.ownsRow base 93 64 v l.length (cs.toList.take (l.length * 64))) (h2 : w.ownsRow base 4 1 u l.length (ds.toList.take (l.length * 1)))
    (kp : Blk w p 95 #[v, u]) : ∃ g h, BAt w p g h l ∧ base ≤ g ∧ base ≤ h := by
  have hp := hw.pos
  obtain ⟨hl1, ⟨_, h0⟩ | ⟨g, cap, cur, rfl, hbg, hg, hnc, hcm, hcs, htake⟩⟩ := h1
  · omega
  obtain ⟨hl2, ⟨_, h0⟩ | ⟨h, cap2, cur2, rfl, hbh, hh, hnc2, hcm2, hcs2, htake2⟩⟩ := h2
  · omega
  refine ⟨g, h, ⟨hw, cap, cap2, cur, cur2, kp, hg, hh, hnc, hnc2, hcs, by omega, hcm, hcm2, fun i j hi hj => ?_, fun i x hx => ?_⟩, hbg, hbh⟩
  · have h3 := hB i j hi hj
    have h4 : (cur.toList.take (l.length * 64))[64 * i + j]? = (cs.toList.take (l.length * 64))[64 * i + j]? := by rw [htake]
    rw [List.getElem?_take, List.getElem?_take, if_pos (by omega), if_pos (by omega)] at h4
    simpa using h4.trans (by simpa using h3)
  · have hi := (List.getElem?_eq_some_iff.1 hx).1
    have h3 := hT i x hx
    have h4 : (cur2.toList.take (l.length * 1))[i]? = (ds.toList.take (l.length * 1))[i]? := by rw [htake2]
    rw [List.getElem?_take, List.getElem?_take, if_pos (by omega), if_pos (by omega)] at h4
    simpa using h4.trans (by simpa using h3)
theorem bytes_one {l : BL} {cs : Array Value} (hB : Bytes l cs) : ∀ u ∈ cs.toList.take (l.length * 64), u.oneCell' = true := by
  intro u hu
  obtain ⟨k, hk⟩ := List.getElem?_of_mem hu
  rw [List.getElem?_take] at hk
  split at hk
  · rename_i hk2
    have h1 := hB (k / 64) (k % 64) (by omega) (by omega)
    rw [show 64 * (k / 64) + k % 64 = k by omega] at h1
    rw [Array.getElem?_toList, h1] at hk
    cases hk
    rfl
  · cases hk
theorem takens_one {l : BL} {cs : Array Value} (hT : Takens l cs) : ∀ u ∈ cs.toList.take (l.length * 1), u.oneCell' = true := by
  intro u hu
  obtain ⟨k, hk⟩ := List.getElem?_of_mem hu
  rw [List.getElem?_take] at hk
  split at hk
  · rename_i hk2
    have h1 := hT k _ (List.getElem?_eq_getElem (by omega))
    rw [Array.getElem?_toList, h1] at hk
    cases hk
    rfl
  · cases hk

set_option maxRecDepth 20000 in
set_option maxHeartbeats 1000000 in
theorem copy_any (w : World) (p g h : Nat) (l : BL) (H : BAt w p g h l) : Calls Try.prog 32 #[.pointer (some ⟨p, 0, none⟩)] w fun e w' => ∃ p' g' h', e = .returned (.pointer (some ⟨p', 0, none⟩)) ∧ BAt w' p' g' h' l ∧ Below w.heap.size w w' ∧ w.heap.size ≤ p' ∧ w.heap.size ≤ g' ∧ w.heap.size ≤ h' := by
  obtain ⟨hw, c, d, cs, ds, k1, k2, k3, h1, h2, h3, h4, h5, h6, hB, hT⟩ := H
  have HK : Hid (∀ W, Below w.heap.size w W → W.cell? ⟨p, 0, none⟩ = some (.slice (some ⟨g, 0, none⟩) l.length c) ∧ W.cell? ⟨p, 1, none⟩ = some (.slice (some ⟨h, 0, none⟩) l.length d)) := hide (fun W hb => ⟨(k1.below hb k1.lt).cell 0 rfl, (k1.below hb k1.lt).cell 1 rfl⟩)
  obtain ⟨q0, q1⟩ := unhide HK w (Below.refl _ _)
  have HA : Hid (∀ W, Below w.heap.size w W → Calls Try.prog 56 #[.slice (some ⟨g, 0, none⟩) l.length c] W fun e w' => ∃ g' c', e = .returned (.slice (some ⟨g', 0, none⟩) l.length c') ∧ w'.cell? ⟨p, 0, none⟩ = some (.slice (some ⟨g, 0, none⟩) l.length c) ∧ w'.cell? ⟨p, 1, none⟩ = some (.slice (some ⟨h, 0, none⟩) l.length d) ∧ Hid (w'.ownsRow w.heap.size 93 64 (.slice (some ⟨g', 0, none⟩) l.length c') l.length (cs.toList.take (l.length * 64)) ∧ Below W.heap.size W w' ∧ Below w.heap.size w w')) := hide (fun W hb => by
    refine (clone_bytes W g c l.length cs (k2.below hb k2.lt) (by omega) hw.max hw.pos (bytes_one hB)).mono ?_
    rintro e w' ⟨v, rfl, h7, h8⟩
    have h9 := hb.trans (h8.mono hb.size)
    obtain ⟨g', c', rfl, _, _⟩ := h7.form (by have := hw.pos; omega)
    exact ⟨g', c', rfl, (unhide HK w' h9).1, (unhide HK w' h9).2, hide ⟨own_le h7 hb.size, h8, h9⟩⟩)
  have HB : Hid (∀ W, Below w.heap.size w W → Calls Try.prog 57 #[.slice (some ⟨h, 0, none⟩) l.length d] W fun e w' => ∃ g' c', e = .returned (.slice (some ⟨g', 0, none⟩) l.length c') ∧ w'.cell? ⟨p, 0, none⟩ = some (.slice (some ⟨g, 0, none⟩) l.length c) ∧ w'.cell? ⟨p, 1, none⟩ = some (.slice (some ⟨h, 0, none⟩) l.length d) ∧ Hid (w'.ownsRow w.heap.size 4 1 (.slice (some ⟨g', 0, none⟩) l.length c') l.length (ds.toList.take (l.length * 1)) ∧ Below W.heap.size W w' ∧ Below w.heap.size w w')) := hide (fun W hb => by
    refine (clone_takens W h d l.length ds (k3.below hb k3.lt) (by omega) hw.max hw.pos (takens_one hT)).mono ?_
    rintro e w' ⟨v, rfl, h7, h8⟩
    have h9 := hb.trans (h8.mono hb.size)
    obtain ⟨g', c', rfl, _, _⟩ := h7.form (by have := hw.pos; omega)
    exact ⟨g', c', rfl, (unhide HK w' h9).1, (unhide HK w' h9).2, hide ⟨own_le h7 hb.size, h8, h9⟩⟩)
  have HL := hide (And.intro hw (And.intro hB hT))
  obtain ⟨n, hn⟩ : ∃ n, n = l.length := ⟨_, rfl⟩
  rw [← hn] at q0 q1 HA HB
  have HN := hide hn
  clear hw hB hT HK k1 k2 k3 h1 h2 h3 h4 h5 h6 hn
  go_enter Try.func32, Try.ntmps32
  go_wp2_with fail
  go_region_held3 (fun w' => w'.cell? ⟨p, 0, none⟩ = some (.slice (some ⟨g, 0, none⟩) n c) ∧ w'.cell? ⟨p, 1, none⟩ = some (.slice (some ⟨h, 0, none⟩) n d)) (go_keep) (first
    | (go_at_call 56; refine (unhide HA _ (by first | exact Below.refl _ _ | exact below_drew _ _ | exact (unhide HB2).2.2 | exact (unhide HB2).2.2.trans ((below_drew _ _).mono (unhide HB2).2.2.size))).mono ?_; rintro e wa ⟨ga, ca, rfl, a0, a1, HA2⟩)
    | (go_at_call 57; refine (unhide HB _ (by first | exact Below.refl _ _ | exact below_drew _ _ | exact (unhide HA2).2.2 | exact (unhide HA2).2.2.trans ((below_drew _ _).mono (unhide HA2).2.2.size))).mono ?_; rintro e wb ⟨gb, cb, rfl, b0, b1, HB2⟩))
  obtain ⟨WB, hWB⟩ : ∃ WB, WB = wb.alloc (Obj.cells #[Value.slice (some ⟨ga, 0, none⟩) n ca, Value.slice (some ⟨gb, 0, none⟩) n cb] 95) := ⟨_, rfl⟩
  rw [← hWB]
  have hb1 : Below wb.heap.size wb WB := by rw [hWB]; exact (Below.refl _ _).alloc (Nat.le_refl _) _
  have HR : Hid (∃ g' h', BAt WB wb.heap.size g' h' l ∧ Below w.heap.size w WB ∧ w.heap.size ≤ wb.heap.size ∧ w.heap.size ≤ g' ∧ w.heap.size ≤ h') := hide (by
    have oa := own_grownS (S := fun _ => False) (own_grownS (S := fun _ => False) (unhide HA2).1 (grownS_of_below (unhide HB2).2.1) (fun _ _ e => e)) (grownS_of_below hb1) (fun _ _ e => e)
    have ob := own_grownS (S := fun _ => False) (unhide HB2).1 (grownS_of_below hb1) (fun _ _ e => e)
    rw [unhide HN] at oa ob hWB
    obtain ⟨g', h', h1, h2, h3⟩ := lies_copy (unhide HL).1 (unhide HL).2.1 (unhide HL).2.2 oa ob (p := wb.heap.size) (by rw [hWB]; exact Blk.new _ _ _)
    exact ⟨g', h', h1, (unhide HB2).2.2.trans (hb1.mono (unhide HB2).2.2.size), (unhide HB2).2.2.size, h2, h3⟩)
  clear hWB hb1 HA2 HB2 HA HB
  go_wp2
  go_ret
  obtain ⟨g', h', h1, h2⟩ := unhide HR
  exact ⟨_, g', h', rfl, h1, h2⟩

end Go.Proofs.Ytcfhgjlihifmnaa

/-
  The law's own small functions: few, plain, same.
-/
import Derived.Test.YtlbpeknncakfeaaGreatDoorEval
import Derived.Deep.RegionLaw
import Derived.BigQuiet
namespace Go.Proofs.YtlbpeknncakfeaaGreatDoor
open Go.RowKit Go.Maps

abbrev Pairs := List (List UInt8 × List UInt8)
def fineB (p : List UInt8 × List UInt8) : Bool := decide (p.1.length ≤ 100) && decide (p.2.length ≤ 100)
def fewB (l : Pairs) : Bool := decide (l.length ≤ 30) && l.all fineB
theorem fewB_spec {l : Pairs} (h : fewB l = true) : l.length ≤ 30 ∧ ∀ p ∈ l, p.1.length ≤ 100 ∧ p.2.length ≤ 100 := by
  unfold fewB at h
  rw [Bool.and_eq_true] at h
  refine ⟨of_decide_eq_true h.1, fun p hp => ?_⟩
  have := List.all_eq_true.1 h.2 p hp
  unfold fineB at this
  rw [Bool.and_eq_true] at this
  exact ⟨of_decide_eq_true this.1, of_decide_eq_true this.2⟩
theorem fewB_big {l : Pairs} (h : 30 < l.length) : fewB l = false := by
  unfold fewB
  rw [show decide (l.length ≤ 30) = false from decide_eq_false (by omega)]
  rfl
theorem fewB_no {l : Pairs} {k : Nat} (hk : k < l.length) (h : fineB l[k] = false) : fewB l = false := by
  unfold fewB
  rw [show l.all fineB = false by
    rw [List.all_eq_false]
    exact ⟨l[k], List.getElem_mem hk, by rw [h]; simp⟩]
  simp
theorem fewB_yes {l : Pairs} (h : l.length ≤ 30) (h2 : ∀ j (hj : j < l.length), fineB l[j] = true) : fewB l = true := by
  unfold fewB
  rw [decide_eq_true h, Bool.true_and, List.all_eq_true]
  intro p hp
  obtain ⟨j, hj, rfl⟩ := List.getElem_of_mem hp
  exact h2 j hj

set_option maxRecDepth 20000 in
set_option maxHeartbeats 4000000 in
theorem few_any (n : Nat) (v : Value) (l : Pairs) (w : World) (hr : PRow n w v l) : Calls Tryz.prog 12 #[v] w fun e w' => e = .returned (.bool (fewB l)) ∧ w' = w := by
  obtain ⟨a, cap, rfl, hmax, hrow⟩ := hr
  have HROW := hide hrow
  clear hrow
  by_cases hbig : 30 < l.length
  · have hb' : (30 : Int) < (l.length : Int) := by omega
    go_enter Tryz.func12, Tryz.ntmps12
    go_wp2
    go_ret
    exact ⟨by rw [fewB_big hbig]; rfl, rfl⟩
  · have hb' : ¬ (30 : Int) < (l.length : Int) := by omega
    go_enter Tryz.func12, Tryz.ntmps12
    go_wp2_with fail
    go_loop [3] (fun i => ∃ k : Nat, k ≤ l.length ∧ i = .int .i64 k ∧ Hid (∀ j (hj : j < l.length), j < k → fineB l[j] = true)) (fun i => l.length - (intOf i).toNat)
    case atStart => exact ⟨0, by omega, rfl, hide (fun j hj h0 => by omega)⟩
    case round =>
      obtain ⟨k, hk, rfl, HF⟩ := hrel
      by_cases hlt : k < l.length
      · rcases unhide HROW with h0 | ⟨b, o, rfl, hbn, hc⟩
        · rw [h0] at hlt; simp at hlt
        · obtain ⟨p, hp⟩ : ∃ p, p = l[k] := ⟨_, rfl⟩
          have q1 : w.cell? ⟨b, o + k * 2, none⟩ = some (.string (BA p.1)) := by rw [hp]; exact (hc k hlt).1
          have q2 : w.cell? ⟨b, o + k * 2 + 1, none⟩ = some (.string (BA p.2)) := by rw [hp]; exact (hc k hlt).2
          have HP := hide hp
          clear hp hc
          by_cases h1 : 100 < p.1.length
          · have h1' : (100 : Int) < (p.1.length : Int) := by omega
            have HN : Hid (fewB l = false) := hide (fewB_no hlt (by rw [← unhide HP]; unfold fineB; rw [show decide (p.1.length ≤ 100) = false from decide_eq_false (by omega)]; rfl))
            go_wp2
            go_ret
            exact ⟨by rw [unhide HN]; rfl, rfl⟩
          · have h1' : ¬ (100 : Int) < (p.1.length : Int) := by omega
            by_cases h2 : 100 < p.2.length
            · have h2' : (100 : Int) < (p.2.length : Int) := by omega
              have HN : Hid (fewB l = false) := hide (fewB_no hlt (by rw [← unhide HP]; unfold fineB; rw [show decide (p.2.length ≤ 100) = false from decide_eq_false (by omega)]; simp))
              go_wp2
              go_ret
              exact ⟨by rw [unhide HN]; rfl, rfl⟩
            · have h2' : ¬ (100 : Int) < (p.2.length : Int) := by omega
              have HY : Hid (fineB l[k] = true) := hide (by rw [← unhide HP]; unfold fineB; rw [decide_eq_true (by omega), decide_eq_true (by omega)]; rfl)
              go_wp2
              go_round
              case rel => exact ⟨k + 1, by omega, by go_num, hide (fun j hj hjk => by
                by_cases hjk' : j < k
                · exact unhide HF j hj hjk'
                · obtain rfl : j = k := by omega
                  exact unhide HY)⟩
              case measure => simp [intOf]; omega
      · have HY : Hid (fewB l = true) := hide (fewB_yes (by omega) (fun j hj => unhide HF j hj (by omega)))
        go_wp2
        go_ret
        exact ⟨by rw [unhide HY]; rfl, rfl⟩

theorem step_append_own {P : Program} {ops : Array Oper} {o : Oper} {a : Act} {w : World} {K : Act → World → Prop} {Q : Exit → Act → World → Prop} {E : Prop} (hg : o.guard = none) (s x : Operand) (t : TypeId)
    (ho : o.op = .call { callee := .builtin .append, args := #[s, x], argTypes := #[t, t] })
    (base : Nat) (e : TypeId) (i : TypeInfo) (z : Value) (size bytes : Nat) (ht : P.underlying t = some (.slice e)) (hi : P.info? e = some i) (hz : i.zero = some z)
    (hsize : i.size = size) (hby : i.bytes = bytes) (hzs : z.cells.size = size) (hsz : 0 < size)
    (v : Value) (n : Nat) (xs : List Value) (hs : a.eval s = v) (hown : w.ownsRow base e size v n xs)
    (ad : Addr) (m c : Nat) (news : List Value) (hx : a.eval x = .slice (some ad) m c) (hl : news.length = m * size) (hnews : ∀ j u, news[j]? = some u → w.cell? (ad.add j) = some u) (h1 : ∀ u ∈ news, u.oneCell' = true)
    (h63 : n + m ≤ maxLen) (hbytes : (n + m) * bytes ≤ 140737488355328) (hbase : base ≤ w.heap.size)
    (h : ∀ v' w', w'.ownsRow base e size v' (n + m) (xs ++ news) → w.grownBy w' v.ownBlock → (v' = .slice none 0 0 ↔ v = .slice none 0 0 ∧ m = 0) → K (a.put o.dst v') w') :
    if Region.wanted o (yielded ops a.tmps) = true then Oper.wp P o a w K Q else E := by
  have hw : Region.wanted o (yielded ops a.tmps) = true := by simp [Region.wanted, hg]
  rw [if_pos hw]
  exact wp_append_own w s x t ho base e i z size bytes ht hi hz hsize hby hzs hsz v n xs hs hown ad m c news hx hl hnews h1 h63 hbytes hbase h
theorem info68 : (Tryz.prog.info? 68).map (fun i => (i.zero, i.size, i.bytes)) = some (some (.agg #[.string ⟨#[]⟩, .string ⟨#[]⟩]), 2, 32) := by kernel_rfl
theorem le_alloc {n : Nat} {w : World} {o : Obj} (h : n ≤ w.heap.size) : n ≤ (w.alloc o).drew.heap.size := by
  show n ≤ (w.heap.push o).size
  rw [Array.size_push]
  omega
theorem row_of_own68 {w : World} {base n : Nat} {v : Value} {l : Pairs} (h : w.ownsRow base 68 2 v l.length (flatP l)) (hl : l.length ≤ 9223372036854775807) (hn : w.heap.size ≤ n) : PRow n w v l := by
  obtain ⟨h1, ⟨rfl, h0⟩ | ⟨g, cap, cur, rfl, hg, hc, h4, h5, h6, h7⟩⟩ := h
  · exact ⟨none, 0, by rw [h0], hl, .inl (List.eq_nil_of_length_eq_zero h0)⟩
  · refine ⟨_, cap, rfl, hl, .inr ⟨g, 0, rfl, Nat.lt_of_lt_of_le (Array.getElem?_eq_some_iff.1 hc).1 hn, fun j hj => ?_⟩⟩
    have hb : Blk w g 68 cur := hc
    have hget := flatP_get l j hj
    rw [← h7] at hget
    rw [List.getElem?_take, List.getElem?_take] at hget
    rw [if_pos (by omega), if_pos (by omega)] at hget
    refine ⟨hb.cell _ ?_, hb.cell _ ?_⟩
    · rw [Nat.zero_add]; simpa using hget.1
    · rw [Nat.zero_add]; simpa using hget.2

set_option maxRecDepth 20000 in
set_option maxHeartbeats 8000000 in
theorem plain_any (n : Nat) (v : Value) (l : Pairs) (w : World) (hr : PRow n w v l) (hn : n ≤ w.heap.size) (hl : l.length ≤ 5000) : Calls Tryz.prog 15 #[v] w fun e w' => ∃ v', e = .returned v' ∧ PRow w'.heap.size w' v' l ∧ Below w.heap.size w w' := by
  obtain ⟨a, cap, rfl, hmax, hrow⟩ := hr
  obtain ⟨i0, hi, hz0, hz1, hz2⟩ := info_parts info68
  have HROW := hide hrow
  clear hrow
  go_enter Tryz.func15, Tryz.ntmps15
  go_wp2_with fail
  go_loopw [3, 4] (fun ov i wr => ∃ k : Nat, k ≤ l.length ∧ i = .int .i64 k ∧ Hid (wr.ownsRow w.heap.size 68 2 ov (l.take k).length (flatP (l.take k))) ∧ Hid (Below w.heap.size w wr)) (fun _ i _ => l.length - (intOf i).toNat)
  case atStart => exact ⟨0, by omega, rfl, hide (World.ownsRow_nil _ _ _ _), hide (Below.refl _ _)⟩
  case round =>
    obtain ⟨k, hk, rfl, HO, HB⟩ := hrel
    by_cases hlt : k < l.length
    · rcases unhide HROW with h0 | ⟨b, o, rfl, hbn, hc⟩
      · rw [h0] at hlt; simp at hlt
      · obtain ⟨p, hp⟩ : ∃ p, p = l[k] := ⟨_, rfl⟩
        have e : wr.heap[b]? = w.heap[b]? := (unhide HB).block b (by omega)
        have q1 : wr.cell? ⟨b, o + k * 2, none⟩ = some (.string (BA p.1)) := by rw [hp, ← (hc k hlt).1]; unfold World.cell?; simp only [e]
        have q2 : wr.cell? ⟨b, o + k * 2 + 1, none⟩ = some (.string (BA p.2)) := by rw [hp, ← (hc k hlt).2]; unfold World.cell?; simp only [e]
        have HP : Hid (l.take (k + 1) = l.take k ++ [p]) := hide (by rw [hp]; exact (List.take_append_getElem hlt).symm)
        have hws := (unhide HB).size
        have htl : (l.take k).length = k := by rw [List.length_take]; omega
        have HTL := hide htl
        have hlt' : (k : Int) < (l.length : Int) := by omega
        have hk0 : (0 : Int) ≤ (k : Int) := by omega
        have hO := unhide HO
        rw [htl] at hO
        have HO1 := hide hO
        have HL1 : Hid (k + 1 ≤ maxLen) := hide (by unfold maxLen; omega)
        have HL2 : Hid ((k + 1) * 32 ≤ 140737488355328) := hide (by omega)
        clear hp e hc htl hO
        go_wp2_with fail
        go_region_law (refine step_append_own rfl (.tmp 11) (.tmp 23) 31 rfl w.heap.size 68 i0 _ 2 32 Tryz.underlying31 hi hz0 hz1 hz2 rfl (by decide) _ _ _ (by simp [Act.eval]) (ownsRow_below (unhide HO1) (((Below.refl _ wr).alloc (Nat.le_refl _) _).drew)) ⟨wr.heap.size, 0, none⟩ 1 1 [.string (BA p.1), .string (BA p.2)] (by simp [Act.eval]) rfl two_cells two_one (unhide HL1) (unhide HL2) (le_alloc hws) ?_; intro v' w1 hown' hgrow _)
        all_goals
          have HOW := hide hown'
          have HGR := hide hgrow
          clear hown' hgrow
          go_wp2
          refine ⟨⟨k + 1, by omega, by go_num, hide ?_, hide ?_⟩, ?_⟩
          · rw [unhide HP, List.length_append, flatP_snoc, unhide HTL]
            exact unhide HOW
          · exact ((((unhide HB).alloc hws _).drew).grown (unhide HGR) (le_alloc hws) (fun j hj => (ownsRow_lt (unhide HO1) hj).1))
          · simp [intOf]; omega
    · have hkl : k = l.length := by omega
      have HK := hide hkl
      clear hkl
      go_wp2
      go_ret
      refine ⟨_, rfl, ?_, unhide HB⟩
      have := unhide HO
      rw [unhide HK, List.take_length] at this
      exact row_of_own68 this (by omega) (Nat.le_refl _)

set_option maxRecDepth 20000 in
set_option maxHeartbeats 8000000 in
theorem same_any (n m : Nat) (va vb : Value) (l : Pairs) (w : World) (ha : PRow n w va l) (hb : PRow m w vb l) (hn : n ≤ w.heap.size) (hm : m ≤ w.heap.size) : Calls Tryz.prog 16 #[va, vb] w fun e w' => e = .returned (.bool true) ∧ Below w.heap.size w w' := by
  obtain ⟨a, cap, rfl, hmax, harow⟩ := ha
  obtain ⟨b, capb, rfl, _, hbrow⟩ := hb
  have HA := hide harow
  have HB := hide hbrow
  clear harow hbrow
  go_enter Tryz.func16, Tryz.ntmps16
  go_wp2_with fail
  go_loopw [5] (fun i wr => ∃ k : Nat, k ≤ l.length ∧ i = .int .i64 k ∧ Hid (Below w.heap.size w wr)) (fun i _ => l.length - (intOf i).toNat)
  case atStart => exact ⟨0, by omega, rfl, hide (Below.refl _ _)⟩
  case round =>
    obtain ⟨k, hk, rfl, HBL⟩ := hrel
    by_cases hlt : k < l.length
    · rcases unhide HA with h0 | ⟨ab, ao, rfl, han, hac⟩
      · rw [h0] at hlt; simp at hlt
      rcases unhide HB with h0 | ⟨bb, bo, rfl, hbn, hbc⟩
      · rw [h0] at hlt; simp at hlt
      obtain ⟨p, hp⟩ : ∃ p, p = l[k] := ⟨_, rfl⟩
      have e1 : wr.heap[ab]? = w.heap[ab]? := (unhide HBL).block ab (by omega)
      have e2 : wr.heap[bb]? = w.heap[bb]? := (unhide HBL).block bb (by omega)
      have q1 : wr.cell? ⟨ab, ao + k * 2, none⟩ = some (.string (BA p.1)) := by rw [hp, ← (hac k hlt).1]; unfold World.cell?; simp only [e1]
      have q2 : wr.cell? ⟨ab, ao + k * 2 + 1, none⟩ = some (.string (BA p.2)) := by rw [hp, ← (hac k hlt).2]; unfold World.cell?; simp only [e1]
      have q3 : wr.cell? ⟨bb, bo + k * 2, none⟩ = some (.string (BA p.1)) := by rw [hp, ← (hbc k hlt).1]; unfold World.cell?; simp only [e2]
      have q4 : wr.cell? ⟨bb, bo + k * 2 + 1, none⟩ = some (.string (BA p.2)) := by rw [hp, ← (hbc k hlt).2]; unfold World.cell?; simp only [e2]
      have hlt' : (k : Int) < (l.length : Int) := by omega
      have hk0 : (0 : Int) ≤ (k : Int) := by omega
      clear hp e1 e2 hac hbc
      go_wp2_with fail
      go_quiet (fail)
      go_wp2
      refine ⟨⟨k + 1, by omega, by go_num, hide ((unhide HBL).trans ((below_of_grown (grown_drewN wr _)).mono (unhide HBL).size))⟩, ?_⟩
      simp [intOf]; omega
    · go_wp2
      go_ret
      exact ⟨rfl, unhide HBL⟩

end Go.Proofs.YtlbpeknncakfeaaGreatDoor

/-
  Numbers of open files: isNil, isNumber, refuse, refuseNew, numbers.
  Numbers of open files: numbers (those that are open, or are not, rising).
-/
import Derived.Test.YtemologkibcdoaaGreatDoorM31
import Derived.Maps.RangeWalk

/- Numbers of open files: isNil, isNumber, refuse, refuseNew, numbers. -/
namespace Go.Proofs.YtemologkibcdoaaGreatDoor
open Go.RowKit Go.Maps

def I64 (x : Int) : Prop := -9223372036854775808 ≤ x ∧ x ≤ 9223372036854775807
set_option maxRecDepth 20000 in
set_option maxHeartbeats 1000000 in
theorem isnum_any (fd : Int) (w : World) : Calls Tryz.prog 50 #[.int .i64 fd] w fun e w' => e = .returned (.bool (fdOk fd)) ∧ w' = w := by
  by_cases h1 : 0 ≤ fd
  all_goals by_cases h2 : fd < 16
  all_goals
    go_enter Tryz.func50, Tryz.ntmps50
    go_wp2
    go_ret
    exact ⟨ret_bool (by unfold fdOk; simp [*]), rfl⟩
theorem setC_size {L : Fay} {x : Nat} {l : List (Option Nat)} (h : l.length = 16) : (setC L x l).size = 17 := by simp [setC, h]
theorem setC_at {L : Fay} {x : Nat} {l : List (Option Nat)} (h : l.length = 16) (j : Nat) (hj : j < 16) : (setC L x l)[1 + j]? = some (numV L (l[j]?).join) := by
  unfold setC
  rw [List.getElem?_toArray, show 1 + j = j + 1 by omega, List.getElem?_cons_succ, List.getElem?_map]
  rw [List.getElem?_eq_getElem (by omega)]
  rfl
theorem setC_set {L : Fay} {x : Nat} {l : List (Option Nat)} (j : Nat) (o : Option Nat) : (setC L x l).setIfInBounds (1 + j) (numV L o) = setC L x (l.set j o) := by
  unfold setC
  apply Array.ext'
  rw [Array.toList_setIfInBounds, show 1 + j = j + 1 by omega, List.set_cons_succ, List.map_set]
set_option maxRecDepth 20000 in
set_option maxHeartbeats 1000000 in
theorem sisnil_any {w : World} {b x : Nat} {L : Fay} {l : List (Option Nat)} (H : Blk w b 76 (setC L x l)) : Calls Tryz.prog 32 #[.pointer (some ⟨b, 0, none⟩)] w fun e w' => e = .returned (.bool false) ∧ w' = w := by
  have c0 : w.cell? ⟨b, 0, none⟩ = some (.pointer (some ⟨x, 0, none⟩)) := H.cell 0 rfl
  clear H
  go_enter Tryz.func32, Tryz.ntmps32
  go_wp2
  go_ret
  exact ⟨rfl, rfl⟩
set_option maxRecDepth 20000 in
theorem sisnil_nil (w : World) : Calls Tryz.prog 32 #[.pointer none] w fun e w' => e = .returned (.bool true) ∧ w' = w := by
  go_enter Tryz.func32, Tryz.ntmps32
  go_wp2
  go_ret
  exact ⟨rfl, rfl⟩
theorem numL_ok {l : List (Option Nat)} {fd : Int} (h : fdOk fd = true) : ∃ j : Nat, fd = (j : Int) ∧ j < 16 ∧ numL l fd = (l[j]?).join := by
  obtain ⟨h0, h1⟩ := fdOk_iff.1 h
  refine ⟨fd.toNat, by omega, by omega, ?_⟩
  unfold numL
  rw [if_pos h]
theorem numL_no {l : List (Option Nat)} {fd : Int} (h : fdOk fd = false) : numL l fd = none := by
  unfold numL
  rw [if_neg (by rw [h]; decide)]
set_option maxRecDepth 20000 in
set_option maxHeartbeats 2000000 in
theorem srefuse_any {w : World} {b x : Nat} {L : Fay} {l : List (Option Nat)} (H : Blk w b 76 (setC L x l)) (hl : l.length = 16) (fd : Int) : Calls Tryz.prog 43 #[.pointer (some ⟨b, 0, none⟩), .int .i64 fd] w fun e w' => e = .returned (.int .i64 (refL l fd)) ∧ w' = w := by
  have HN := hide (sisnil_any H)
  have HM := hide (isnum_any fd w)
  cases hf : fdOk fd with
  | false =>
    rw [hf] at HM
    unfold refL
    rw [numL_no hf]
    clear H hf
    go_enter Tryz.func43, Tryz.ntmps43
    go_wp2_with fail
    refine (unhide HN).mono ?_
    rintro e w1 ⟨rfl, hw⟩
    subst hw
    go_wp2_with fail
    refine (unhide HM).mono ?_
    rintro e w1 ⟨rfl, hw⟩
    subst hw
    go_wp2_with fail
    go_ret
    exact ⟨rfl, rfl⟩
  | true =>
    rw [hf] at HM
    unfold refL
    obtain ⟨j, rfl, hj, e⟩ := numL_ok (l := l) hf
    rw [e]
    have c1 : w.cell? ⟨b, 1 + j, none⟩ = some (numV L (l[j]?).join) := H.cell _ (setC_at hl j hj)
    obtain ⟨o, ho⟩ : ∃ o, o = (l[j]?).join := ⟨_, rfl⟩
    rw [← ho] at c1 ⊢
    clear H hf e ho
    unfold numV at c1
    have h1 : (j : Int) < 16 := by omega
    have h0 : (0 : Int) ≤ (j : Int) := by omega
    cases o <;> simp only [Option.map_none, Option.map_some] at c1
    all_goals
      go_enter Tryz.func43, Tryz.ntmps43
      go_wp2_with fail
      refine (unhide HN).mono ?_
      rintro e w1 ⟨rfl, hw⟩
      subst hw
      go_wp2_with fail
      refine (unhide HM).mono ?_
      rintro e w1 ⟨rfl, hw⟩
      subst hw
      go_wp2_with fail
      go_ret
      exact ⟨rfl, rfl⟩
set_option maxRecDepth 20000 in
set_option maxHeartbeats 2000000 in
theorem srefusenew_any {w : World} {b x : Nat} {L : Fay} {l : List (Option Nat)} (H : Blk w b 76 (setC L x l)) (hl : l.length = 16) (fd : Int) : Calls Tryz.prog 41 #[.pointer (some ⟨b, 0, none⟩), .int .i64 fd] w fun e w' => e = .returned (.int .i64 (refNewL l fd)) ∧ w' = w := by
  have HN := hide (sisnil_any H)
  have HM := hide (isnum_any fd w)
  unfold refNewL
  cases hf : fdOk fd with
  | false =>
    rw [hf] at HM
    clear H hf
    go_enter Tryz.func41, Tryz.ntmps41
    go_wp2_with fail
    refine (unhide HN).mono ?_
    rintro e w1 ⟨rfl, hw⟩
    subst hw
    go_wp2_with fail
    refine (unhide HM).mono ?_
    rintro e w1 ⟨rfl, hw⟩
    subst hw
    go_wp2_with fail
    go_ret
    exact ⟨rfl, rfl⟩
  | true =>
    rw [hf] at HM
    obtain ⟨j, rfl, hj, e⟩ := numL_ok (l := l) hf
    rw [e]
    have c1 : w.cell? ⟨b, 1 + j, none⟩ = some (numV L (l[j]?).join) := H.cell _ (setC_at hl j hj)
    obtain ⟨o, ho⟩ : ∃ o, o = (l[j]?).join := ⟨_, rfl⟩
    rw [← ho] at c1 ⊢
    clear H hf e ho
    unfold numV at c1
    have h1 : (j : Int) < 16 := by omega
    have h0 : (0 : Int) ≤ (j : Int) := by omega
    cases o <;> simp only [Option.map_none, Option.map_some] at c1
    all_goals
      go_enter Tryz.func41, Tryz.ntmps41
      go_wp2_with fail
      refine (unhide HN).mono ?_
      rintro e w1 ⟨rfl, hw⟩
      subst hw
      go_wp2_with fail
      refine (unhide HM).mono ?_
      rintro e w1 ⟨rfl, hw⟩
      subst hw
      go_wp2_with fail
      go_ret
      exact ⟨rfl, rfl⟩

end Go.Proofs.YtemologkibcdoaaGreatDoor

/- Numbers of open files: numbers (those that are open, or are not, rising). -/
namespace Go.Proofs.YtemologkibcdoaaGreatDoor
open Go.RowKit Go.Maps

def intC (l : List Nat) : List Value := l.map fun (k : Nat) => Value.int .i64 (k : Int)
theorem und_ints : Tryz.prog.underlying 40 = some (.slice 3) := by kernel_rfl
/-- A loop that makes a row of numbers. -/
structure NuS (w wr : World) (v : Value) (O : List Nat) : Prop where
  own : wr.ownsRow w.heap.size 3 1 v O.length (intC O)
  bel : Below w.heap.size w wr
theorem NuS.slice {w wr : World} {v : Value} {O : List Nat} (h : NuS w wr v O) : ∃ ad n c, v = .slice ad n c := by
  obtain ⟨_, ⟨rfl, _⟩ | ⟨g, cap, cur, rfl, _⟩⟩ := h.own
  · exact ⟨_, _, _, rfl⟩
  · exact ⟨_, _, _, rfl⟩
theorem NuS.push {w wr : World} {v : Value} {O : List Nat} (h : NuS w wr v O) (x : Nat) (hl : O.length ≤ 200000) : ∃ v' w3, (∀ ty, (Builtin.append_ #[40, 40] ty #[v, .slice (some ⟨wr.heap.size, 0, none⟩) 1 1]).run Tryz.prog (wr.alloc (.cells #[.int .i64 (x : Int)] 3)) = .ok v' w3) ∧ (∃ ad n c, v' = .slice ad n c) ∧ Hid (NuS w w3 v' (O ++ [x])) := by
  obtain ⟨i, hi, hz, hs, hby⟩ := info2 (t := 3) (z := some (.int .i64 0)) (a := 1) (c := 8) (by kernel_rfl)
  have hal : Below wr.heap.size wr (wr.alloc (.cells #[.int .i64 (x : Int)] 3)) := (Below.refl _ _).alloc (Nat.le_refl _) _
  have hbs := h.bel.size
  have hbw : w.heap.size ≤ (wr.alloc (.cells #[.int .i64 (x : Int)] 3)).heap.size := Nat.le_trans hbs hal.size
  obtain ⟨v', w3, hr, o1, o2, _, o4⟩ := run_append_own_at (P := Tryz.prog) (wr.alloc (.cells #[.int .i64 (x : Int)] 3)) w.heap.size 40 0 3 i _ 1 8 und_ints hi hz hs hby rfl (by decide) v O.length (intC O) (h.own.alloc _) ⟨wr.heap.size, 0, none⟩ 1 1 [.int .i64 (x : Int)] rfl (fun j u hj => by
    have hb2 := Blk.new wr 3 #[.int .i64 (x : Int)]
    have : ((⟨wr.heap.size, 0, none⟩ : Addr).add j) = ⟨wr.heap.size, j, none⟩ := by
      by_cases h0 : j = 0
      · subst h0; simp [Addr.add]
      · simp [Addr.add, h0]
    rw [this]
    exact hb2.cell j (by rw [← List.getElem?_toArray] at hj; exact hj)) (fun u hu => by
      rcases List.mem_cons.1 hu with rfl | hu
      · rfl
      · cases hu) (by unfold maxLen; omega) (by omega) hbw
  refine ⟨v', w3, fun _ => hr, ?_, hide ⟨?_, ?_⟩⟩
  · obtain ⟨_, ⟨rfl, _⟩ | ⟨g, cap, cur, rfl, _⟩⟩ := o1
    · exact ⟨_, _, _, rfl⟩
    · exact ⟨_, _, _, rfl⟩
  · unfold intC
    rw [List.map_append, List.length_append]
    exact o1
  · exact h.bel.trans ((hal.mono hbs).trans ((GrownS.of (S := fun k => w.heap.size ≤ k) o2 (fun k e => (h.own.lt k e.symm).1)).below hbw (fun _ e => e)))
/-- The slice v holds these numbers. -/
def NuRow (base : Nat) (w : World) (v : Value) (l : List Nat) : Prop := ∃ ad cap, v = .slice ad l.length cap ∧ l.length ≤ cap ∧ cap ≤ maxLen ∧ ∀ (i x : Nat), l[i]? = some x → ∃ g, ad = some ⟨g, 0, none⟩ ∧ w.cell? ⟨g, i, none⟩ = some (.int .i64 (x : Int)) ∧ g < w.heap.size ∧ base ≤ g
theorem NuS.row {w wr : World} {v : Value} {O : List Nat} (h : NuS w wr v O) : NuRow w.heap.size wr v O := by
  obtain ⟨h0, ⟨rfl, h1⟩ | ⟨g, cap, cur, rfl, hb, hg, hle, hm, hsz, htk⟩⟩ := h.own
  · have : O = [] := List.eq_nil_of_length_eq_zero h1
    subst this
    exact ⟨none, 0, rfl, by simp, Nat.zero_le _, fun i x hi => by simp at hi⟩
  · refine ⟨_, cap, rfl, hle, hm, fun i x hi => ⟨g, rfl, ?_, (Array.getElem?_eq_some_iff.1 hg).1, hb⟩⟩
    have hil := (List.getElem?_eq_some_iff.1 hi).1
    have e1 : (cur.toList.take (O.length * 1))[i]? = some (.int .i64 (x : Int)) := by rw [htk, intC, List.getElem?_map, hi]; rfl
    rw [List.getElem?_take, if_pos (by omega)] at e1
    simp [World.cell?, hg]
    simpa using e1
theorem NuRow.below {w w' : World} {base : Nat} {v : Value} {l : List Nat} (h : NuRow base w v l) (hb : Below w.heap.size w w') : NuRow base w' v l := by
  obtain ⟨ad, cap, h1, h2, h3, h4⟩ := h
  refine ⟨ad, cap, h1, h2, h3, fun i x hi => ?_⟩
  obtain ⟨g, e1, e2, e3, e4⟩ := h4 i x hi
  exact ⟨g, e1, (hb.cell (p := ⟨g, i, none⟩) e3).trans e2, Nat.lt_of_lt_of_le e3 hb.size, e4⟩
def numsTo (l : List (Option Nat)) (o : Bool) (k : Nat) : List Nat := (List.range k).filter (fun j => ((l[j]?).join).isSome == o)
theorem nums_step (l : List (Option Nat)) (o : Bool) (k : Nat) : numsTo l o (k + 1) = numsTo l o k ++ (if ((l[k]?).join).isSome == o then [k] else []) := by
  unfold numsTo
  rw [List.range_succ, List.filter_append]
  congr 1
  by_cases h : ((l[k]?).join).isSome == o <;> simp [h]
theorem nums_len (l : List (Option Nat)) (o : Bool) (k : Nat) : (numsTo l o k).length ≤ k := by
  have := List.length_filter_le (fun j => ((l[j]?).join).isSome == o) (List.range k)
  rw [List.length_range] at this
  exact this
theorem idx16 (v : Nat → Value) (w : World) : ∀ j : Nat, j < 16 → (Instr.index 74 (.agg #[v 0, v 1, v 2, v 3, v 4, v 5, v 6, v 7, v 8, v 9, v 10, v 11, v 12, v 13, v 14, v 15]) (.int .i64 (j : Int))).run Tryz.prog w = .ok (v j) w
  | 0, _ => by kernel_rfl
  | 1, _ => by kernel_rfl
  | 2, _ => by kernel_rfl
  | 3, _ => by kernel_rfl
  | 4, _ => by kernel_rfl
  | 5, _ => by kernel_rfl
  | 6, _ => by kernel_rfl
  | 7, _ => by kernel_rfl
  | 8, _ => by kernel_rfl
  | 9, _ => by kernel_rfl
  | 10, _ => by kernel_rfl
  | 11, _ => by kernel_rfl
  | 12, _ => by kernel_rfl
  | 13, _ => by kernel_rfl
  | 14, _ => by kernel_rfl
  | 15, _ => by kernel_rfl
  | j + 16, h => by omega
set_option maxRecDepth 20000 in
set_option maxHeartbeats 8000000 in
theorem numbers_any {w : World} {b x : Nat} {L : Fay} {l : List (Option Nat)} (H : Blk w b 76 (setC L x l)) (hl : l.length = 16) (o : Bool) : Calls Tryz.prog 33 #[.pointer (some ⟨b, 0, none⟩), .bool o] w fun e w' => ∃ v, e = .returned v ∧ Hid (NuRow w.heap.size w' v (numsL l o) ∧ Below w.heap.size w w') := by
  obtain ⟨v, hv⟩ : ∃ v : Nat → Value, v = fun j => numV L (l[j]?).join := ⟨_, rfl⟩
  have hc : ∀ j : Nat, j < 16 → w.cell? ⟨b, 1 + j, none⟩ = some (v j) := fun j hj => by rw [hv]; exact H.cell _ (setC_at hl j hj)
  have c0 := hc 0 (by decide)
  have c1 := hc 1 (by decide)
  have c2 := hc 2 (by decide)
  have c3 := hc 3 (by decide)
  have c4 := hc 4 (by decide)
  have c5 := hc 5 (by decide)
  have c6 := hc 6 (by decide)
  have c7 := hc 7 (by decide)
  have c8 := hc 8 (by decide)
  have c9 := hc 9 (by decide)
  have c10 := hc 10 (by decide)
  have c11 := hc 11 (by decide)
  have c12 := hc 12 (by decide)
  have c13 := hc 13 (by decide)
  have c14 := hc 14 (by decide)
  have c15 := hc 15 (by decide)
  simp only [Nat.reduceAdd] at c0 c1 c2 c3 c4 c5 c6 c7 c8 c9 c10 c11 c12 c13 c14 c15
  have HV : Hid (∀ j, v j = numV L (l[j]?).join) := hide (fun j => by rw [hv])
  have hst : Hid (NuS w w (.slice none 0 0) (numsTo l o 0)) := hide ⟨World.ownsRow_nil _ _ _ _, Below.refl _ _⟩
  have HIX := hide (idx16 v)
  clear H hc hv
  go_enter Tryz.func33, Tryz.ntmps33
  go_wp2_with fail
  go_loopw [5, 12] (fun u i wr => ∃ (k : Nat), i = .int .i64 (k : Int) ∧ k ≤ 16 ∧ Hid (NuS w wr u (numsTo l o k))) (fun _ i _ => 17 - (intOf i).toNat)
  case atStart => exact ⟨0, rfl, Nat.zero_le _, hst⟩
  case round =>
    obtain ⟨k, rfl, hk, HS⟩ := hrel
    clear c0 c1 c2 c3 c4 c5 c6 c7 c8 c9 c10 c11 c12 c13 c14 c15
    obtain ⟨va, vn, vc, rfl⟩ := (unhide HS).slice
    by_cases hlt : k < 16
    · have hlt1 : (k : Int) < 16 := by omega
      have hix := unhide HIX wr k hlt
      have hvk := unhide HV k
      have HST := hide (nums_step l o k)
      have hln := nums_len l o k
      obtain ⟨v2, w4, run2, ⟨a2, n2, d2, rfl⟩, HS4⟩ := (unhide HS).push k (by omega)
      have HRUN2 := hide run2
      obtain ⟨y, hy⟩ : ∃ y, y = (l[k]?).join := ⟨_, rfl⟩
      rw [← hy] at hvk HST
      rw [hvk] at hix
      clear hvk hy hlt run2 HIX HV hst hln
      by_cases hyo : y.isSome = o
      · have HA : Hid (NuS w w4 (.slice a2 n2 d2) (numsTo l o (k + 1))) := hide (by
          rw [unhide HST, if_pos (by rw [hyo]; simp)]
          exact unhide HS4)
        clear HS HS4 HST
        rcases y with _ | i <;> rcases o with _ | _
        · clear hyo
          rw [numV_none] at hix
          go_wp2_with (at_builtin; refine wpList_append_run rfl _ _ _ rfl _ _ _ rfl rfl (unhide HRUN2) ?_)
          go_roundw
          case rel => exact ⟨k + 1, by go_num, by omega, HA⟩
          case measure => simp [intOf]; omega
        · exact Bool.noConfusion hyo
        · exact Bool.noConfusion hyo
        · clear hyo
          rw [numV_some] at hix
          go_wp2_with (at_builtin; refine wpList_append_run rfl _ _ _ rfl _ _ _ rfl rfl (unhide HRUN2) ?_)
          go_roundw
          case rel => exact ⟨k + 1, by go_num, by omega, HA⟩
          case measure => simp [intOf]; omega
      · have HA : Hid (NuS w wr (.slice va vn vc) (numsTo l o (k + 1))) := hide (by
          rw [unhide HST, if_neg (by simpa using hyo), List.append_nil]
          exact unhide HS)
        clear HS HS4 HST HRUN2
        rcases y with _ | i <;> rcases o with _ | _
        · exact absurd rfl hyo
        · clear hyo
          rw [numV_none] at hix
          go_wp2_with fail
          go_roundw
          case rel => exact ⟨k + 1, by go_num, by omega, HA⟩
          case measure => simp [intOf]; omega
        · clear hyo
          rw [numV_some] at hix
          go_wp2_with fail
          go_roundw
          case rel => exact ⟨k + 1, by go_num, by omega, HA⟩
          case measure => simp [intOf]; omega
        · exact absurd rfl hyo
    · have hlt1 : ¬ (k : Int) < 16 := by omega
      have HA : Hid (NuRow w.heap.size wr (.slice va vn vc) (numsL l o) ∧ Below w.heap.size w wr) := hide (by
        have : k = 16 := by omega
        subst this
        exact ⟨(unhide HS).row, (unhide HS).bel⟩)
      clear HS hst HIX HV
      go_wp2_with fail
      go_ret
      exact ⟨_, rfl, HA⟩

end Go.Proofs.YtemologkibcdoaaGreatDoor

/-
  The contract of 'Eval'.
-/
import Derived.Test.YtlbpeknncakfeaaGreatDoorWork3
namespace Go.Proofs.YtlbpeknncakfeaaGreatDoor
open Go.RowKit Go.Maps

theorem PRow.mono {n m : Nat} {w : World} {v : Value} {l : List (List UInt8 × List UInt8)} (h : PRow n w v l) (hm : n ≤ m) : PRow m w v l := by
  obtain ⟨a, cap, hv, hl, h⟩ := h
  refine ⟨a, cap, hv, hl, ?_⟩
  rcases h with h | ⟨b, o, ha, hlt, hc⟩
  · exact .inl h
  · exact .inr ⟨b, o, ha, by omega, hc⟩
theorem flatP_get : ∀ (l : List (List UInt8 × List UInt8)) (j : Nat) (hj : j < l.length), (flatP l)[j * 2]? = some (.string (BA l[j].1)) ∧ (flatP l)[j * 2 + 1]? = some (.string (BA l[j].2))
  | p :: l, 0, _ => ⟨rfl, rfl⟩
  | p :: l, j + 1, hj => by
    have hj' : j < l.length := by simpa using hj
    have := flatP_get l j hj'
    have e : flatP (p :: l) = .string (BA p.1) :: .string (BA p.2) :: flatP l := rfl
    rw [e, show (j + 1) * 2 = j * 2 + 1 + 1 by omega, show j * 2 + 1 + 1 + 1 = (j * 2 + 1) + 1 + 1 by omega]
    simpa using this
theorem row_of_own {w : World} {base n : Nat} {v : Value} {l : List (List UInt8 × List UInt8)} (h : w.ownsRow base 39 2 v l.length (flatP l)) (hl : l.length ≤ 9223372036854775807) (hn : w.heap.size ≤ n) : PRow n w v l := by
  obtain ⟨h1, ⟨rfl, h0⟩ | ⟨g, cap, cur, rfl, hg, hc, h4, h5, h6, h7⟩⟩ := h
  · exact ⟨none, 0, by rw [h0], hl, .inl (List.eq_nil_of_length_eq_zero h0)⟩
  · refine ⟨_, cap, rfl, hl, .inr ⟨g, 0, rfl, Nat.lt_of_lt_of_le (Array.getElem?_eq_some_iff.1 hc).1 hn, fun j hj => ?_⟩⟩
    have hb : Blk w g 39 cur := hc
    have hget := flatP_get l j hj
    rw [← h7] at hget
    rw [List.getElem?_take, List.getElem?_take] at hget
    rw [if_pos (by omega), if_pos (by omega)] at hget
    refine ⟨hb.cell _ ?_, hb.cell _ ?_⟩
    · rw [Nat.zero_add]; simpa using hget.1
    · rw [Nat.zero_add]; simpa using hget.2

/-- What an expression is, and what it sets, or what is wrong. -/
def evalL (vars : List (List UInt8 × List UInt8)) (l : List UInt8) : Except Int (Int × List (List UInt8 × List UInt8)) :=
  if 4096 < l.length then .error 3
  else if (trimT (BA l)).size = 0 then .ok (0, [])
  else match readS l with
    | none => .error 10
    | some x => match evalS (findV vars) x ⟨.map [], []⟩ with
      | .error c => .error c
      | .ok (n, σ) => .ok (n, σ.sets)
def EvalEnd (r : Except Int (Int × List (List UInt8 × List UInt8))) (e : Ending) (w' : World) : Prop := match r with
  | .ok (n, sets) => I64 n ∧ sets.length ≤ 5000 ∧ ∃ sv, e = .returned (.tuple #[.int .i64 n, sv, .int .i64 0]) ∧ PRow w'.heap.size w' sv sets
  | .error c => e = .returned (.tuple #[.int .i64 0, .slice none 0 0, .int .i64 c]) ∧ c ≠ 0

/-- The expression, called over a fresh scope. -/
theorem work_at {lo : Nat} {w2 : World} {x : E} {fv va : Value} {vars : List (List UInt8 × List UInt8)} {n₀ : Nat} (hr : Rep lo w2.heap.size w2 x fv) (hv : PRow n₀ w2 va vars) (hn : n₀ ≤ w2.heap.size) (hvl : ∀ p ∈ vars, p.2.length ≤ 100000) (he : Env w2) (hc : 0 + cost x ≤ 100000) :
    Works (w2.heap.size + 1 + 1) (w2.heap.size + 1) w2.heap.size vars va x fv (((w2.alloc (.cells #[va] 27)).alloc (.map #[] 0)).alloc (.cells #[.func (.func 44) #[] #[.pointer (some ⟨w2.heap.size, 0, none⟩)], .map (some (w2.heap.size + 1)), .slice none 0 0] 62)) 0 ⟨.map [], []⟩ := by
  have g := grown3 w2 (.cells #[va] 27) (.map #[] 0) (.cells #[.func (.func 44) #[] #[.pointer (some ⟨w2.heap.size, 0, none⟩)], .map (some (w2.heap.size + 1)), .slice none 0 0] 62)
  have b := below_of_grown g
  have hm : ((w2.alloc (.cells #[va] 27)).alloc (.map #[] 0)).ownsMap Tryz.prog 9 (plainElem (H := Unit) Tryz.prog 3) (w2.heap.size + 1) 0 (.map []) := by
    have := World.ownsMap_made (w2.alloc (.cells #[va] 27)) Tryz.prog 9 (plainElem (H := Unit) Tryz.prog 3)
    rw [size1] at this
    exact this
  refine work_any _ _ _ lo vars va x fv _ 0 ⟨.map [], []⟩ (.slice none 0 0) ⟨Blk.new2 _ _ _ _ _, hm.alloc _, World.ownsRow_nil _ _ _ _, ((Blk.new w2 27 #[va]).alloc _).alloc _, (hv.mono hn).below b (Nat.le_refl _), by omega, by omega, hvl, Nat.le_refl _, he.below b, by have := he.size; omega⟩ ?_ hc
  exact Rep.mono (fun bb _ h2 => b.block bb h2) (by omega) hr

theorem PRow.nil (n : Nat) (w : World) : PRow n w (.slice none 0 0) [] := ⟨none, 0, rfl, by decide, .inl rfl⟩

set_option maxRecDepth 20000 in
set_option maxHeartbeats 8000000 in
theorem eval_any (l : List UInt8) (vars : List (List UInt8 × List UInt8)) (va : Value) (n₀ : Nat) (w : World) (hv : PRow n₀ w va vars) (hn : n₀ ≤ w.heap.size) (hl : l.length ≤ 100000) (hvl : ∀ p ∈ vars, p.2.length ≤ 100000) (he : Env w) :
    Calls Tryz.prog 13 #[.string (BA l), va] w fun e w' => EvalEnd (evalL vars l) e w' ∧ Below w.heap.size w w' := by
  have HV := hide hv
  have HE := hide he
  have HVL := hide hvl
  obtain ⟨a, cap, rfl, hmax, _⟩ := hv
  clear he hvl
  by_cases hbig : 4096 < l.length
  · have HR : Hid (evalL vars l = .error 3) := hide (by unfold evalL; rw [if_pos hbig])
    have hb' : (4096 : Int) < (l.length : Int) := by omega
    go_enter Tryz.func13, Tryz.ntmps13
    go_wp2
    go_ret3
    refine ⟨?_, Below.refl _ _⟩
    rw [unhide HR]
    exact ⟨rfl, by decide⟩
  · have hb' : ¬ (4096 : Int) < (l.length : Int) := by omega
    have HT := hide (trim_any (BA l) w hl)
    obtain ⟨t, ht⟩ : ∃ t, t = trimT (BA l) := ⟨_, rfl⟩
    have HTT := hide ht
    rw [← ht] at HT
    clear ht
    by_cases h0 : t.size = 0
    · have HR : Hid (evalL vars l = .ok (0, [])) := hide (by unfold evalL; rw [if_neg hbig, if_pos (by rw [← unhide HTT]; exact h0)])
      have hem := empty_of h0
      clear h0
      go_enter Tryz.func13, Tryz.ntmps13
      go_wp2_with fail
      refine (unhide HT).mono ?_
      rintro e w1 ⟨rfl, b1⟩
      have B1 := hide b1
      clear b1
      go_wp2
      go_ret3
      refine ⟨?_, unhide B1⟩
      rw [unhide HR]
      exact ⟨⟨by decide, by decide⟩, by simp, _, rfl, PRow.nil _ _⟩
    · have hem := nonempty_of (show 0 < t.size by omega)
      have HR : Hid (evalL vars l = match readS l with | none => .error 10 | some x => match evalS (findV vars) x ⟨.map [], []⟩ with | .error c => .error c | .ok (n, σ) => .ok (n, σ.sets)) := hide (by unfold evalL; rw [if_neg hbig, if_neg (by rw [← unhide HTT]; exact h0)])
      clear h0
      go_enter Tryz.func13, Tryz.ntmps13
      go_wp2_with fail
      refine (unhide HT).mono ?_
      rintro e w1 ⟨rfl, b1⟩
      have hread := read_any l w1 hl ((unhide HE).below b1).glob
      have B1 := hide b1
      clear b1
      go_wp2_with fail
      rcases hrs : readS l with _ | x
      · rw [hrs] at hread
        have HR2 : Hid (evalL vars l = .error 10) := hide (by rw [unhide HR, hrs])
        have HRD := hide hread
        clear hread hrs
        refine (unhide HRD).mono ?_
        rintro e w2 ⟨he, b2⟩
        have he2 : e = .returned (.tuple #[.nilFunc, .int .i64 10]) := he
        subst he2
        have B2 := hide b2
        clear he b2
        go_wp2
        go_ret3
        refine ⟨?_, (unhide B1).trans ((unhide B2).mono (unhide B1).size)⟩
        rw [unhide HR2]
        exact ⟨rfl, by decide⟩
      · rw [hrs] at hread
        have hcost := readS_cost hrs
        have HR2 : Hid (evalL vars l = match evalS (findV vars) x ⟨.map [], []⟩ with | .error c => .error c | .ok (n, σ) => .ok (n, σ.sets)) := hide (by rw [unhide HR, hrs])
        have HRD := hide hread
        clear hread hrs
        refine (unhide HRD).mono ?_
        rintro e w2 ⟨⟨fv, lo, he, hfn, hrep⟩, b2⟩
        subst he
        have B12 := hide ((unhide B1).trans (b2.mono (unhide B1).size))
        have HE2 := hide (((unhide HE).below (unhide B1)).below b2)
        have HREP := hide hrep
        clear b2 hrep
        have hmm := @run_makeMap Tryz.prog
        have hworks := work_at (vars := vars) (va := .slice a vars.length cap) (unhide HREP) ((unhide HV).below ((unhide B12).mono hn) (Nat.le_refl _)) (Nat.le_trans hn (unhide B12).size) (unhide HVL) (unhide HE2) (show 0 + cost x ≤ 100000 by omega)
        obtain ⟨k, caps, rfl, hcall, hw⟩ := hworks
        have HW := hide hw
        clear hw hfn
        have hsz3 := sz3 w2 (.cells #[.slice a vars.length cap] 27) (.map #[] 0) (.cells #[.func (.func 44) #[] #[.pointer (some ⟨w2.heap.size, 0, none⟩)], .map (some (w2.heap.size + 1)), .slice none 0 0] 62)
        have hg3 := grown3 w2 (.cells #[.slice a vars.length cap] 27) (.map #[] 0) (.cells #[.func (.func 44) #[] #[.pointer (some ⟨w2.heap.size, 0, none⟩)], .map (some (w2.heap.size + 1)), .slice none 0 0] 62)
        have HG3 := hide hg3
        have HZ3 := hide hsz3
        clear hg3 hsz3
        rcases hq : evalS (findV vars) x ⟨.map [], []⟩ with c | ⟨n, σ⟩
        · rw [hq] at HW
          have HR3 : Hid (evalL vars l = .error c) := hide (by rw [unhide HR2, hq])
          clear hq
          go_wp2_with (first | (go_at_call 25; go_in) | fail)
          refine (unhide HW).mono ?_
          rintro e w3 ⟨hb3, he, hc⟩
          subst he
          have hc2 : (c == 0) = false := by simpa using hc
          have HB := hide hb3
          have HC := hide hc
          clear hb3 hc
          go_wp2
          go_ret3
          refine ⟨?_, ?_⟩
          · rw [unhide HR3]
            exact ⟨rfl, unhide HC⟩
          · have b3 := below_of_grown (unhide HG3)
            exact (unhide B12).trans ((b3.mono (unhide B12).size).trans ((unhide HB).mono (by have := (unhide B12).size; omega)))
        · rw [hq] at HW
          have HR3 : Hid (evalL vars l = .ok (n, σ.sets)) := hide (by rw [unhide HR2, hq])
          clear hq
          go_wp2_with (first | (go_at_call 25; go_in) | fail)
          refine (unhide HW).mono ?_
          rintro e w3 ⟨hb3, he, hn3, sv, hS3⟩
          subst he
          have hsl := hS3.slen
          obtain ⟨sa, sc, rfl⟩ := own_shape hS3.row
          have c2 : w3.cell? ⟨w2.heap.size + 1 + 1, 2, none⟩ = some (.slice sa σ.sets.length sc) := hS3.blk.cell 2 rfl
          have HB := hide hb3
          have HN := hide hn3
          have HS := hide hS3
          clear hb3 hn3 hS3
          go_wp2_with fail
          go_quiet (fail)
          go_wp2
          go_ret3
          refine ⟨?_, ?_⟩
          · rw [unhide HR3]
            exact ⟨unhide HN, by omega, _, rfl, row_of_own (ownsRow_below (unhide HS).row (below_of_grown (grown_drewN w3 _))) (by omega) (Nat.le_refl _)⟩
          · have b3 := below_of_grown (unhide HG3)
            exact (unhide B12).trans ((b3.mono (unhide B12).size).trans (((unhide HB).mono (by have := (unhide B12).size; omega)).trans ((below_of_grown (grown_drewN w3 _)).mono (by have := (unhide B12).size; have := (unhide HB).size; have := unhide HZ3; omega))))

end Go.Proofs.YtlbpeknncakfeaaGreatDoor

/-
  Package vars: the arguments.
-/
import Derived.Test.YtbcbnoeplapblaaGreatDoorVOps
import Derived.Laws.Cells
namespace Go.Proofs.YtbcbnoeplapblaaGreatDoor
open Go.RowKit Go.Maps

theorem texts_getD (l : List (List UInt8)) (j : Nat) (h : j < l.length) : ∃ x, l[j]? = some x ∧ (l.map BA).getD j ByteArray.empty = BA x := by
  refine ⟨l[j], List.getElem?_eq_getElem h, ?_⟩
  simp [List.getD, h]
/-- A slice of texts that may be read. -/
def AIn (w : World) (v : Value) (l : List (List UInt8)) : Prop := ∃ ad cap, v = .slice ad l.length cap ∧ l.length ≤ maxLen ∧ (l = [] ∨ ∃ g o, ad = some ⟨g, o, none⟩ ∧ g < w.heap.size ∧ ∀ i x, l[i]? = some x → w.cell? ⟨g, o + i, none⟩ = some (.string (BA x)))
theorem AIn.below {w w' : World} {v : Value} {l : List (List UInt8)} (h : AIn w v l) (hb : Below w.heap.size w w') : AIn w' v l := by
  obtain ⟨ad, cap, h1, h3, h4 | ⟨g, o, h4, h5, h6⟩⟩ := h
  · exact ⟨ad, cap, h1, h3, .inl h4⟩
  · exact ⟨ad, cap, h1, h3, .inr ⟨g, o, h4, Nat.lt_of_lt_of_le h5 hb.size, fun i x hi => by rw [hb.cell h5]; exact h6 i x hi⟩⟩
theorem AOwn.read {w : World} {v : Value} {l : List (List UInt8)} (h : AOwn w v l) : AIn w v l := by
  have h' := h
  rcases h with ⟨rfl, rfl⟩ | ⟨g, o, cap, cs, rfl, h1, h2, h3, h4, h5⟩
  · exact ⟨none, 0, rfl, Nat.zero_le _, .inl rfl⟩
  · exact ⟨some ⟨g, o, none⟩, cap, rfl, Nat.le_trans h1 h2, .inr ⟨g, o, rfl, (Array.getElem?_eq_some_iff.1 h3).1, fun i x hi => h'.cell hi⟩⟩
set_option maxRecDepth 20000 in
/-- slices.Clone of texts. -/
theorem clone_any (v : Value) (l : List (List UInt8)) (w : World) (h : AIn w v l) (hl : l.length ≤ 1000000) :
    Calls Tryz.prog 47 #[v] w fun e w' => ∃ v', e = .returned v' ∧ AOwn w' v' l ∧ (∀ k, v'.ownBlock = some k → w.heap.size ≤ k) ∧ Below w.heap.size w w' := by
  obtain ⟨ad, cap, rfl, h3, h4⟩ := h
  cases ad with
  | none =>
    have hl : l = [] := by
      rcases h4 with h4 | ⟨g, o, h4, _⟩
      · exact h4
      · cases h4
    subst hl
    refine (Tryz.slices_Clone_string_nil 0 cap w).mono ?_
    rintro e w' ⟨rfl, rfl⟩
    exact ⟨_, rfl, .inl ⟨rfl, rfl⟩, fun k hk => (by cases hk), Below.refl _ _⟩
  | some a =>
    rcases h4 with rfl | ⟨g, o, h4, h5, h6⟩
    · refine (Tryz.slices_Clone_string_zero a cap w).mono ?_
      rintro e w' ⟨v', rfl, hr, _, hb⟩
      obtain ⟨ha, hk⟩ := AOwn.of_row (l := []) hr rfl
      exact ⟨v', rfl, ha, hk, hb⟩
    · cases h4
      refine (Tryz.slices_Clone_string g o l.length cap (l.map BA) w (by simp) (by omega) ?_).mono ?_
      · intro j hj
        obtain ⟨x, hx, e⟩ := texts_getD l j (by simpa using hj)
        rw [e]
        exact h6 j x hx
      · rintro e w' ⟨v', rfl, hr, _, hb⟩
        rw [List.take_of_length_le (by simp), List.map_map] at hr
        obtain ⟨ha, hk⟩ := AOwn.of_row (l := l) hr rfl
        exact ⟨v', rfl, ha, hk, hb⟩

set_option maxRecDepth 20000 in
set_option maxHeartbeats 4000000 in
theorem replace_any (b : Nat) (X : Nat → Prop) (s : VSt) (v : Value) (l : List (List UInt8)) (w : World) (hX : ∀ k, w.heap.size ≤ k → X k) (h : VAt w b X s) (hl : AIn w v l) (hll : l.length ≤ 1000000) :
    Calls Tryz.prog 24 #[.pointer (some ⟨b, 0, none⟩), v] w fun e w' => e = .returned (.tuple #[]) ∧ VAt w' b X { s with args := l } ∧ GrownS w w' X := by
  have HC := hide (clone_any v l w hl hll)
  have HV := hide h
  have HX := hide hX
  clear hl h hX
  go_enter Tryz.func24, Tryz.ntmps24
  go_wp2_with fail
  refine (unhide HC).mono ?_
  rintro e w1 ⟨v', rfl, ha, hk, hb1⟩
  obtain ⟨u, m, hb, hau, hm, x1, x2, x3⟩ := (unhide HV).below hb1
  have c1 : w1.cell? ⟨b, 1, none⟩ = some u := hb.cell 1 rfl
  have f1 : w1.frozen? ⟨b, 1, none⟩ = false := hb.frozen 1
  have hg : GrownS w1 (w1.setCell ⟨b, 1, none⟩ v') (fun k => k = b) := GrownS.of (grown_setCell w1 _ _) (fun k e => by simpa using e)
  have HEND : Hid (VAt (w1.setCell ⟨b, 1, none⟩ v') b X { s with args := l } ∧ GrownS w (w1.setCell ⟨b, 1, none⟩ v') X) := hide ⟨⟨v', m, hb.set 1 _, ha.grown hg (fun k hk e => blk_row hb ha (by rw [hk, e])), hm.grown hg (fun k hk e => blk_map hb hm (by rw [hk, e])), x1, fun k hk' => unhide HX k (hk k hk'), x3⟩, (grownS_of_below hb1).trans (hg.mono (fun k _ e => by rw [e]; exact x1))⟩
  obtain ⟨ad', cap', hv', _⟩ := ha.len
  subst hv'
  clear hb hau hm x1 x2 x3 ha hk hb1 hg HX HV HC
  go_wp2
  exact bodyPost_end (res0 rfl _ _) rfl ⟨rfl, unhide HEND⟩
set_option maxRecDepth 20000 in
set_option maxHeartbeats 4000000 in
theorem setArgs_any (b : Nat) (X : Nat → Prop) (s : VSt) (v : Value) (l : List (List UInt8)) (w : World) (hX : ∀ k, w.heap.size ≤ k → X k) (h : VAt w b X s) (hl : AIn w v l) (hll : l.length ≤ 1000000) :
    Calls Tryz.prog 28 #[.pointer (some ⟨b, 0, none⟩), v] w fun e w' => e = .returned (.tuple #[]) ∧ VAt w' b X { s with args := l } ∧ GrownS w w' X := by
  have HC := hide (replace_any b X s v l w hX h hl hll)
  clear h hl hX
  go_enter Tryz.func28, Tryz.ntmps28
  go_wp2_with fail
  refine (unhide HC).mono ?_
  rintro e w1 ⟨rfl, hv, hg⟩
  have HEND := hide (And.intro hv hg)
  clear hv hg HC
  go_wp2
  exact bodyPost_end (res0 rfl _ _) rfl ⟨rfl, unhide HEND⟩
set_option maxHeartbeats 1000000 in
theorem setArgs_nil (v : Value) (w : World) : Calls Tryz.prog 28 #[.pointer none, v] w fun e w' => e = .returned (.tuple #[]) ∧ w' = w := by
  go_enter Tryz.func28, Tryz.ntmps28
  go_wp2
  refine bodyPost_end (res0 rfl _ _) rfl ⟨rfl, rfl⟩
set_option maxRecDepth 20000 in
set_option maxHeartbeats 4000000 in
theorem new_any (zero : List UInt8) (v : Value) (l : List (List UInt8)) (w : World) (hl : AIn w v l) (hll : l.length ≤ 1000000) :
    Calls Tryz.prog 7 #[.string (BA zero), v] w fun e w' => e = .returned (.pointer (some ⟨w.heap.size, 0, none⟩)) ∧ VAt w' w.heap.size (fun k => w.heap.size ≤ k) ⟨zero, l, [], 0⟩ ∧ Below w.heap.size w w' := by
  have HC : Hid (∀ W, W = w.alloc (.cells #[.string (BA zero), .slice none 0 0, .map none, .int .i64 0] 55) → Calls Tryz.prog 24 #[.pointer (some ⟨w.heap.size, 0, none⟩), v] W fun e w' => e = .returned (.tuple #[]) ∧ VAt w' w.heap.size (fun k => w.heap.size ≤ k) ⟨zero, l, [], 0⟩ ∧ Below w.heap.size w w') := hide (by
    rintro W rfl
    have hb : Below w.heap.size w (w.alloc (.cells #[.string (BA zero), .slice none 0 0, .map none, .int .i64 0] 55)) := (Below.refl _ w).alloc (Nat.le_refl _) _
    have hv : VAt (w.alloc (.cells #[.string (BA zero), .slice none 0 0, .map none, .int .i64 0] 55)) w.heap.size (fun k => w.heap.size ≤ k) ⟨zero, [], [], 0⟩ := ⟨.slice none 0 0, none, Blk.new _ _ _, .inl ⟨rfl, rfl⟩, .inl ⟨rfl, rfl⟩, Nat.le_refl _, fun k hk => (by cases hk), fun k hk => (by cases hk)⟩
    refine (replace_any w.heap.size (fun k => w.heap.size ≤ k) ⟨zero, [], [], 0⟩ v l _ (fun k hk => Nat.le_trans hb.size hk) hv (hl.below hb) hll).mono ?_
    rintro e w' ⟨h1, h2, h3⟩
    exact ⟨h1, h2, hb.trans ((h3.below hb.size (fun k hk => hk)))⟩)
  clear hl
  go_enter Tryz.func7, Tryz.ntmps7
  go_wp2_with fail
  refine (unhide HC _ rfl).mono ?_
  rintro e w1 ⟨rfl, hv, hg⟩
  have HEND := hide (And.intro hv hg)
  clear hv hg HC
  go_wp2
  go_ret
  exact ⟨rfl, unhide HEND⟩
set_option maxRecDepth 20000 in
set_option maxHeartbeats 4000000 in
theorem args_any (b : Nat) (X : Nat → Prop) (s : VSt) (w : World) (h : VAt w b X s) (hl : s.args.length ≤ 1000000) :
    Calls Tryz.prog 19 #[.pointer (some ⟨b, 0, none⟩)] w fun e w' => ∃ v', e = .returned v' ∧ AOwn w' v' s.args ∧ (∀ k, v'.ownBlock = some k → w.heap.size ≤ k) ∧ Below w.heap.size w w' := by
  obtain ⟨u, m, hb, hau, hm, x1, x2, x3⟩ := h
  have HC := hide (clone_any u s.args w hau.read hl)
  have c1 : w.cell? ⟨b, 1, none⟩ = some u := hb.cell 1 rfl
  obtain ⟨ad, cap, hu, _⟩ := hau.len
  subst hu
  have HC2 : Hid (Calls Tryz.prog 37 #[.pointer (some ⟨b, 0, none⟩)] w fun e w' => ∃ v', e = .returned v' ∧ AOwn w' v' s.args ∧ (∀ k, v'.ownBlock = some k → w.heap.size ≤ k) ∧ Below w.heap.size w w') := hide (by
    clear hb hau hm x1 x2 x3
    go_enter Tryz.func37, Tryz.ntmps37
    go_wp2_with fail
    refine (unhide HC).mono ?_
    rintro e w1 ⟨v', rfl, h1⟩
    have H1 := hide h1
    clear h1
    go_wp2
    go_ret
    exact ⟨_, rfl, unhide H1⟩)
  clear hb hau hm x1 x2 x3 c1 HC
  go_enter Tryz.func19, Tryz.ntmps19
  go_wp2_with fail
  refine (unhide HC2).mono ?_
  rintro e w1 ⟨v', rfl, h1⟩
  have H1 := hide h1
  clear h1
  go_wp2
  go_ret
  exact ⟨_, rfl, unhide H1⟩
set_option maxHeartbeats 1000000 in
theorem args_nil (w : World) : Calls Tryz.prog 19 #[.pointer none] w fun e w' => e = .returned (.slice none 0 0) ∧ w' = w := by
  go_enter Tryz.func19, Tryz.ntmps19
  go_wp2
  go_ret
  exact ⟨rfl, rfl⟩

end Go.Proofs.YtbcbnoeplapblaaGreatDoor

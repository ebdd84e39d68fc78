/-
  Package vars: Shift.
-/
import Derived.Test.YtbcbnoeplapblaaGreatDoorVArg
import Derived.Laws.CopyRow
namespace Go.Proofs.YtbcbnoeplapblaaGreatDoor
open Go.RowKit Go.Maps

theorem und_texts : Tryz.prog.underlying 22 = some (.slice 9) := by kernel_rfl
theorem zero_text (w : World) : (zeroValue 9).run Tryz.prog w = .ok (.string ⟨#[]⟩) w := Tryz.zeroValue9 w
theorem mod_one (i : Nat) : i % 1 = 0 := by omega
theorem clear_row {w : World} {g o cap n : Nat} {cs : Array Value} (hg : w.heap[g]? = some (.cells cs 9 (0, 0))) (hn : n ≤ cap) (hsz : o + cap ≤ cs.size) :
    ∃ w' cs', (Builtin.clear_ #[22] 0 #[.slice (some ⟨g, o, none⟩) n cap]).run Tryz.prog w = .ok (.tuple #[]) w' ∧ w'.heap[g]? = some (.cells cs' 9 (0, 0)) ∧ cs'.size = cs.size ∧ (∀ i, n ≤ i → cs'[o + i]? = cs[o + i]?) ∧ GrownS w w' (fun k => k = g) := by
  cases n with
  | zero => exact ⟨w, cs, by simp [Builtin.clear_, run_underlying und_texts, Result.andThen], hg, rfl, fun _ _ => rfl, grownS_of_below (Below.refl _ _)⟩
  | succ m =>
    have hlen : (Builtin.zeroCells #[.string ⟨#[]⟩] (m + 1)).toList.length = m + 1 := by simp [Builtin.zeroCells]
    have h1 : ∀ v ∈ (Builtin.zeroCells #[.string ⟨#[]⟩] (m + 1)).toList, v.oneCell' = true := by
      intro v hv
      simp [Builtin.zeroCells, mod_one] at hv
      rw [← hv.2]
      rfl
    have hr := run_storeCells_at (P := Tryz.prog) g o 9 (Builtin.zeroCells #[.string ⟨#[]⟩] (m + 1)).toList 0 cs w hg (by rw [hlen]; omega) h1
    rw [hlen] at hr
    refine ⟨_, (cs.toList.take (o + 0) ++ (Builtin.zeroCells #[.string ⟨#[]⟩] (m + 1)).toList ++ cs.toList.drop (o + 0 + (m + 1))).toArray, ?_, setRow_heap w g cs _ 9 _ hg, ?_, ?_, ?_⟩
    rotate_left
    · simp only [List.size_toArray, List.length_append, hlen, List.length_take, List.length_drop, Array.length_toList]
      omega
    · intro i hi
      rw [List.getElem?_toArray, List.getElem?_append_right (by simp only [List.length_append, hlen, List.length_take, Array.length_toList]; omega)]
      simp only [List.length_append, hlen, List.length_take, List.getElem?_drop, Array.length_toList]
      rw [Array.getElem?_toList]
      congr 1
      omega
    · exact ⟨rfl, rfl, rfl, by simp, fun k _ hne => setRow_other w g k _ hne⟩
    · unfold Builtin.clear_
      simp only [List.getElem?_toArray, List.getElem?_cons_zero, Sem.run_bind, run_underlying und_texts, Result.andThen_ok]
      rw [zero_text]
      simp only [Result.andThen_ok]
      rw [show (Value.string ⟨#[]⟩).cells = #[.string ⟨#[]⟩] from rfl, hr]
      rfl
/-- The texts behind the first n. -/
theorem AOwn.cut {w : World} {g o cap n : Nat} {l : List (List UInt8)} (h : AOwn w (.slice (some ⟨g, o, none⟩) l.length cap) l) (hn : n ≤ l.length) :
    ∃ w', (Builtin.clear_ #[22] 0 #[.slice (some ⟨g, o, none⟩) n cap]).run Tryz.prog w = .ok (.tuple #[]) w' ∧ AOwn w' (.slice (some ⟨g, o + n, none⟩) (l.drop n).length (cap - n)) (l.drop n) ∧ (cap = n → AOwn w' (.slice (some ⟨g, o, none⟩) (l.drop n).length 0) (l.drop n)) ∧ GrownS w w' (fun k => k = g) := by
  rcases h with ⟨h, _⟩ | ⟨g', o', cap', cs, h, h1, h2, hg, hsz, hc⟩
  · cases h
  · cases h
    obtain ⟨w', cs', hr, hg', hs', hi, hgr⟩ := clear_row hg (Nat.le_trans hn h1) hsz
    refine ⟨w', hr, .inr ⟨g, o + n, cap - n, cs', rfl, by simp; omega, by omega, hg', by omega, fun i x hx => ?_⟩, fun hcn => ?_, hgr⟩
    · rw [List.getElem?_drop] at hx
      rw [Nat.add_assoc, hi (n + i) (by omega)]
      exact hc _ _ hx
    · have hd : l.drop n = [] := List.drop_eq_nil_of_le (by omega)
      rw [hd]
      exact .inr ⟨g, o, 0, cs', rfl, Nat.le_refl _, Nat.zero_le _, hg', by omega, fun i x hx => by simp at hx⟩
set_option maxRecDepth 20000 in
set_option maxHeartbeats 4000000 in
theorem drop_any (b : Nat) (X : Nat → Prop) (s : VSt) (n : Int) (w : World) (h : VAt w b X s) (hl : s.args.length ≤ 1000000) :
    Calls Tryz.prog 46 #[.pointer (some ⟨b, 0, none⟩), .int .i64 n] w fun e w' => e = .returned (.int .i64 (shfS s n).2) ∧ VAt w' b X (shfS s n).1 ∧ GrownS w w' X := by
  have HV := hide h
  obtain ⟨u, m, hb, hau, hm, x1, x2, x3⟩ := h
  have c1 : w.cell? ⟨b, 1, none⟩ = some u := hb.cell 1 rfl
  have f1 : w.frozen? ⟨b, 1, none⟩ = false := hb.frozen 1
  obtain ⟨ad, cap, hu, hcap, hcm⟩ := hau.len
  subst hu
  unfold shfS
  by_cases hneg : n < 0
  · rw [if_pos (.inl hneg)]
    clear hb hau hm x1 x2 x3 hcap hcm f1
    go_enter Tryz.func46, Tryz.ntmps46
    go_wp2
    go_ret
    exact ⟨rfl, unhide HV, grownS_of_below (Below.refl _ _)⟩
  by_cases hbig : (s.args.length : Int) < n
  · rw [if_pos (.inr hbig)]
    clear hb hau hm x1 x2 x3 hcap hcm f1
    have hneg' : decide (n < 0) = false := by simpa using hneg
    go_enter Tryz.func46, Tryz.ntmps46
    go_wp2
    go_ret
    exact ⟨rfl, unhide HV, grownS_of_below (Below.refl _ _)⟩
  · rw [if_neg (by omega)]
    obtain ⟨k, rfl⟩ : ∃ k : Nat, n = (k : Int) := ⟨n.toNat, by omega⟩
    have hk : k ≤ s.args.length := by omega
    have hneg' : decide ((k : Int) < 0) = false := by simp
    simp only [Int.toNat_natCast]
    have hst : ∀ (w1 : World) (v' : Value) (S : Nat → Prop), Blk w1 b 55 #[.string (BA s.zero), .slice ad s.args.length cap, .map m, .int .i64 s.st] → AOwn w1 v' (s.args.drop k) → MOwn w1 m s.L → (∀ j, v'.ownBlock = some j → X j) → GrownS w w1 X → VAt (w1.setCell ⟨b, 1, none⟩ v') b X { s with args := s.args.drop k } ∧ GrownS w (w1.setCell ⟨b, 1, none⟩ v') X := by
      intro w1 v' S hb1 ha1 hm1 hx hg
      have hg1 : GrownS w1 (w1.setCell ⟨b, 1, none⟩ v') (fun k => k = b) := GrownS.of (grown_setCell w1 _ _) (fun k e => by simpa using e)
      exact ⟨⟨v', m, hb1.set 1 _, ha1.grown hg1 (fun k hk e => blk_row hb1 ha1 (by rw [hk, e])), hm1.grown hg1 (fun k hk e => blk_map hb1 hm1 (by rw [hk, e])), x1, hx, x3⟩, hg.trans (hg1.mono (fun k _ e => by rw [e]; exact x1))⟩
    cases ad with
    | none =>
      have ha0 : s.args = [] ∧ cap = 0 := by
        rcases hau with ⟨h, h'⟩ | ⟨g, o, cap', cs, h, _⟩
        · injection h with _ _ h3; exact ⟨h', h3⟩
        · cases h
      obtain ⟨ha0, rfl⟩ := ha0
      have hl0 : s.args.length = 0 := by rw [ha0]; rfl
      have hk0 : k = 0 := by omega
      subst hk0
      have HEND := hide (hst w (.slice none 0 0) X hb (by rw [ha0]; exact .inl ⟨rfl, rfl⟩) hm (fun j hj => (by cases hj)) (grownS_of_below (Below.refl _ _)))
      have hclr : (Builtin.clear_ #[22] 0 #[.slice none 0 0]).run Tryz.prog w = .ok (.tuple #[]) w := by simp [Builtin.clear_, run_underlying und_texts, Result.andThen]
      rw [hl0] at c1 hbig hk hl
      clear hb hau hm x1 x2 x3 hcap hcm hst HV ha0 hl0
      go_enter Tryz.func46, Tryz.ntmps46
      go_wp2
      go_ret
      exact ⟨rfl, unhide HEND⟩
    | some a =>
      have hga : ∃ g o, a = ⟨g, o, none⟩ := by
        rcases hau with ⟨h, h'⟩ | ⟨g, o, cap', cs, h, _⟩
        · cases h
        · injection h with h1; injection h1 with h1; exact ⟨g, o, h1⟩
      obtain ⟨g, o, rfl⟩ := hga
      obtain ⟨w1, hclr, ha1, ha2, hg1⟩ := hau.cut hk
      have hgb : b ≠ g := fun e => blk_row hb hau (by rw [e]; rfl)
      have hgX : X g := x2 g rfl
      have hb1 := hb.grownS hg1 hgb
      have hm1 := hm.grown hg1 (fun j hj e => row_map hau hm rfl (by rw [hj, e]))
      have HEND := hide (hst w1 _ X hb1 ha1 hm1 (fun j hj => by injection hj with hj; rw [← hj]; exact hgX) (hg1.mono (fun j _ e => by rw [e]; exact hgX)))
      have HEND2 : Hid (cap = k → VAt (w1.setCell ⟨b, 1, none⟩ (.slice (some ⟨g, o, none⟩) (s.args.drop k).length 0)) b X { s with args := s.args.drop k } ∧ GrownS w (w1.setCell ⟨b, 1, none⟩ (.slice (some ⟨g, o, none⟩) (s.args.drop k).length 0)) X) := hide (fun hck => hst w1 _ X hb1 (ha2 hck) hm1 (fun j hj => by injection hj with hj; rw [← hj]; exact hgX) (hg1.mono (fun j _ e => by rw [e]; exact hgX)))
      have d1 : w1.cell? ⟨b, 1, none⟩ = some (.slice (some ⟨g, o, none⟩) s.args.length cap) := hb1.cell 1 rfl
      have e1 : w1.frozen? ⟨b, 1, none⟩ = false := hb1.frozen 1
      have hk1 : (0 : Int) ≤ (k : Int) := by omega
      have hk2 : (k : Int) ≤ (s.args.length : Int) := by omega
      have hk3 : (k : Int) ≤ (cap : Int) := by omega
      obtain ⟨len, hlen⟩ : ∃ n, n = s.args.length := ⟨_, rfl⟩
      rw [List.length_drop] at HEND HEND2
      rw [← hlen] at c1 d1 hbig hk hk2 hcap hl HEND HEND2
      clear hb hau hm x1 x2 x3 hst HV hb1 hm1 ha1 ha2 hg1 hgb hgX hlen
      go_enter Tryz.func46, Tryz.ntmps46
      go_wp2
      · go_ret
        exact ⟨rfl, unhide HEND2 (by assumption)⟩
      · go_ret
        exact ⟨rfl, unhide HEND⟩
set_option maxRecDepth 20000 in
set_option maxHeartbeats 4000000 in
theorem shift_any (b : Nat) (X : Nat → Prop) (s : VSt) (n : Int) (w : World) (h : VAt w b X s) (hl : s.args.length ≤ 1000000) :
    Calls Tryz.prog 23 #[.pointer (some ⟨b, 0, none⟩), .int .i64 n] w fun e w' => e = .returned (.int .i64 (shfS s n).2) ∧ VAt w' b X (shfS s n).1 ∧ GrownS w w' X := by
  have HC := hide (drop_any b X s n w h hl)
  obtain ⟨R, hR⟩ : ∃ R, R = shfS s n := ⟨_, rfl⟩
  rw [← hR] at HC ⊢
  clear h hR
  go_enter Tryz.func23, Tryz.ntmps23
  go_wp2_with fail
  refine (unhide HC).mono ?_
  rintro e w1 ⟨rfl, hv, hg⟩
  have HEND := hide (And.intro hv hg)
  clear hv hg HC
  go_wp2
  go_ret
  exact ⟨rfl, unhide HEND⟩
set_option maxHeartbeats 1000000 in
theorem shift_nil (n : Int) (w : World) : Calls Tryz.prog 23 #[.pointer none, .int .i64 n] w fun e w' => e = .returned (.int .i64 2) ∧ w' = w := by
  go_enter Tryz.func23, Tryz.ntmps23
  go_wp2
  go_ret
  exact ⟨rfl, rfl⟩

end Go.Proofs.YtbcbnoeplapblaaGreatDoor

/-
  The contracts of 'Special' and of the statements' 'few'.
-/
import Derived.Test.YtegaonlpbcpobaaBegin
namespace Go.Proofs.Ytegaonlpbcpobaa
open Go.RowKit

/-- Token k of a row. -/
theorem TokRow.tok {n : Nat} {W : World} {a : Option Addr} {cap : Nat} {ts : List Tok} (h : TokRow n W (.slice a ts.length cap) ts) {k : Nat} (hk : k < ts.length) :
    ∃ b o ra rc, a = some ⟨b, o, none⟩ ∧ b < n ∧ TokAt n W b (o + k * 4) (.slice ra ts[k].rs.length rc) ts[k] ∧ ts[k].rs.length ≤ 9223372036854775807 := by
  obtain ⟨a', cap', he, _, _, hr⟩ := h
  cases he
  rcases hr with hr | ⟨b, o, rfl, hb, hc⟩
  · simp [hr] at hk
  · obtain ⟨rv, ht⟩ := hc k hk
    have hrow := ht.row
    obtain ⟨ra, rc, rfl, _, hm, _⟩ := hrow
    exact ⟨b, o, ra, rc, rfl, hb, ht, hm⟩
theorem TokRow.shape {n : Nat} {W : World} {v : Value} {ts : List Tok} (h : TokRow n W v ts) : ∃ a cap, v = .slice a ts.length cap ∧ ts.length ≤ 9223372036854775807 := by
  obtain ⟨a, cap, e, _, hm, _⟩ := h
  exact ⟨a, cap, e, hm⟩

def specialB (ts : List Tok) : Bool := ts.any fun t => t.kind != 1
theorem specialB_take (ts : List Tok) (k : Nat) (h : k < ts.length) : specialB (ts.take (k + 1)) = (specialB (ts.take k) || ts[k].kind != 1) := by
  unfold specialB
  rw [← List.take_append_getElem h, List.any_append]
  simp
theorem specialB_hit {ts : List Tok} {k : Nat} (h : k < ts.length) (h1 : ts[k].kind ≠ 1) : specialB ts = true := by
  unfold specialB
  rw [List.any_eq_true]
  exact ⟨ts[k], List.getElem_mem h, by simpa using h1⟩

set_option maxHeartbeats 1000000 in
theorem special1_any (k c : Int) (nt : Bool) (ra : Option Addr) (n cap : Nat) (w : World) :
    Calls Try.prog 27 #[.agg #[.int .i64 k, .int .u8 c, .bool nt, .slice ra n cap]] w fun e w' => e = .returned (.bool (k != 1)) ∧ Below w.heap.size w w' := by
  rcases Bool.eq_false_or_eq_true (k == 1) with h | h
  all_goals
    go_enter Try.func27, Try.ntmps27
    go_wp2
    go_ret
    exact ⟨ret_bool (by simp [bne, h]), (Below.refl _ _).alloc (Nat.le_refl _) _⟩

set_option maxHeartbeats 1000000 in
theorem index_any (n₀ : Nat) (v : Value) (ts : List Tok) (w : World) (hrow : TokRow n₀ w v ts) (hn₀ : n₀ ≤ w.heap.size) :
    Calls Try.prog 35 #[v, .func (Fn.func 27) #[] #[]] w fun e w' => (∃ r : Int, e = .returned (.int .i64 r) ∧ decide (0 ≤ r) = specialB ts) ∧ Below w.heap.size w w' := by
  have HROW := hide hrow
  obtain ⟨a, cap, rfl, hmax⟩ := hrow.shape
  clear hrow
  go_enter Try.func35, Try.ntmps35
  go_wp2
  go_loopw [8] (fun i wr => ∃ (k : Nat), k ≤ ts.length ∧ i = .int .i64 k ∧ specialB (ts.take k) = false ∧ Below w.heap.size w wr) (fun i _ => ts.length - (intOf i).toNat)
  case atStart => exact ⟨0, Nat.zero_le _, rfl, rfl, Below.refl _ _⟩
  case round =>
    obtain ⟨k, hk, rfl, hx, hbel⟩ := hrel
    have HX := hide hx
    have HB := hide hbel
    by_cases hlt : k < ts.length
    · obtain ⟨b, o, ra, rc, rfl, hb, ht, hm⟩ := (unhide HROW).tok hlt
      obtain ⟨k0, k1, k2, k3⟩ := ht.toTokCells.of_block (hbel.block _ (by omega))
      clear hx hbel ht
      go_wp2_with fail
      refine (special1_any _ _ _ _ _ _ _).mono ?_
      rintro e w1 ⟨rfl, b1⟩
      have HB1 : Hid (Below w.heap.size w w1) := hide ((unhide HB).trans (b1.mono (unhide HB).size))
      clear b1 HB
      rcases Bool.eq_false_or_eq_true (ts[k].kind != 1) with h | h
      · rw [h]
        go_wp2
        go_ret
        refine ⟨⟨k, rfl, ?_⟩, unhide HB1⟩
        rw [specialB_hit hlt (by simpa using h)]
        simp
      · rw [h]
        go_wp2
        go_roundw
        case rel => exact ⟨k + 1, by omega, by go_num, by rw [specialB_take _ _ hlt, unhide HX, h]; rfl, unhide HB1⟩
        case measure => simp [intOf]; omega
    · clear hx hbel
      go_wp2
      go_ret
      have hz := unhide HX
      rw [List.take_of_length_le (by omega)] at hz
      exact ⟨⟨-1, rfl, by rw [hz]; rfl⟩, unhide HB⟩

set_option maxHeartbeats 1000000 in
theorem special_any (n₀ : Nat) (v : Value) (ts : List Tok) (w : World) (hrow : TokRow n₀ w v ts) (hn₀ : n₀ ≤ w.heap.size) :
    Calls Try.prog 17 #[v] w fun e w' => e = .returned (.bool (specialB ts)) ∧ Below w.heap.size w w' := by
  have HROW := hide hrow
  obtain ⟨a, cap, rfl, hmax⟩ := hrow.shape
  clear hrow
  have hc : Calls Try.prog 26 #[.slice a ts.length cap, .func (Fn.func 27) #[] #[]] w fun e w' => e = .returned (.bool (specialB ts)) ∧ Below w.heap.size w w' := by
    go_enter Try.func26, Try.ntmps26
    go_wp2_with fail
    refine (index_any n₀ _ ts _ (unhide HROW) hn₀).mono ?_
    rintro e w1 ⟨⟨r, rfl, hr⟩, b1⟩
    go_wp2_with fail
    go_ret
    exact ⟨rfl, b1⟩
  go_enter Try.func17, Try.ntmps17
  go_wp2_with fail
  refine hc.mono ?_
  rintro e w1 ⟨rfl, b1⟩
  go_wp2_with fail
  go_ret
  exact ⟨rfl, b1⟩

def fewB (ts : List Tok) : Bool := decide (ts.length ≤ 60) && ts.all fun t => decide (t.rs.length ≤ 60)
theorem fewB_all {ts : List Tok} (h1 : ts.length ≤ 60) (h : ∀ j (hj : j < ts.length), ts[j].rs.length ≤ 60) : fewB ts = true := by
  unfold fewB
  rw [Bool.and_eq_true, List.all_eq_true]
  refine ⟨by simpa using h1, fun t ht => ?_⟩
  obtain ⟨j, hj, rfl⟩ := List.getElem_of_mem ht
  simpa using h j hj
theorem fewB_not {ts : List Tok} {j : Nat} (hj : j < ts.length) (h : 60 < ts[j].rs.length) : fewB ts = false := by
  unfold fewB
  have : (ts.all fun t => decide (t.rs.length ≤ 60)) = false := by
    rw [List.all_eq_false]
    exact ⟨ts[j], List.getElem_mem hj, by simpa using h⟩
  rw [this]; simp
theorem fewB_spec {ts : List Tok} (h : fewB ts = true) : ts.length ≤ 60 ∧ ∀ t ∈ ts, t.rs.length ≤ 60 := by
  unfold fewB at h
  rw [Bool.and_eq_true, List.all_eq_true] at h
  exact ⟨by simpa using h.1, fun t ht => by simpa using h.2 t ht⟩

set_option maxHeartbeats 1000000 in
theorem few_any (n₀ : Nat) (v : Value) (ts : List Tok) (w : World) (hrow : TokRow n₀ w v ts) :
    Calls Try.prog 14 #[v] w fun e w' => e = .returned (.bool (fewB ts)) ∧ w' = w := by
  have HROW := hide hrow
  obtain ⟨a, cap, rfl, hmax⟩ := hrow.shape
  clear hrow
  by_cases h60 : (60 : Int) < (ts.length : Int)
  · go_enter Try.func14, Try.ntmps14
    go_wp2
    go_ret
    exact ⟨ret_bool (by unfold fewB; simp; omega), rfl⟩
  go_enter Try.func14, Try.ntmps14
  go_wp2
  go_loop [3] (fun i => ∃ (k : Nat), k ≤ ts.length ∧ i = .int .i64 k ∧ ∀ j (hj : j < ts.length), j < k → ts[j].rs.length ≤ 60) (fun i => ts.length - (intOf i).toNat)
  case atStart => exact ⟨0, Nat.zero_le _, rfl, fun j _ hj => absurd hj (by omega)⟩
  case round =>
    obtain ⟨k, hk, rfl, hx⟩ := hrel
    have HX := hide hx
    clear hx
    by_cases hlt : k < ts.length
    · obtain ⟨b, o, ra, rc, rfl, hb, ht, hm⟩ := (unhide HROW).tok hlt
      obtain ⟨⟨k0, k1, k2, k3⟩, _⟩ := ht
      by_cases hl : (60 : Int) < (ts[k].rs.length : Int)
      · go_wp2
        go_ret
        exact ⟨ret_bool (fewB_not hlt (by omega)).symm, rfl⟩
      · go_wp2
        go_round
        case rel =>
          refine ⟨k + 1, by omega, by go_num, fun j hj hjk => ?_⟩
          by_cases e : j < k
          · exact (unhide HX) j hj e
          · have : j = k := by omega
            subst this; omega
        case measure => simp [intOf]; omega
    · go_wp2
      go_ret
      exact ⟨ret_bool (fewB_all (by omega) (fun j hj => (unhide HX) j hj (by omega))).symm, rfl⟩

end Go.Proofs.Ytegaonlpbcpobaa

/-
  within, find, slices.Index of bools; New.
-/
import Derived.Test.YtcfhgjlihifmnaaBMem
namespace Go.Proofs.Ytcfhgjlihifmnaa
open Go.RowKit

set_option maxRecDepth 20000 in
set_option maxHeartbeats 1000000 in
theorem within_any (a n : Int) (w : World) (ha : -9223372036854775808 ≤ a ∧ a ≤ 9223372036854775807) : Calls Try.prog 70 #[.int .i64 a, .int .i64 n] w fun e w' => e = .returned (.bool (inB a n)) ∧ w' = w := by
  by_cases h1 : 0 ≤ a
  · by_cases h2 : 0 ≤ n
    · by_cases h3 : n ≤ 64 - a
      · go_enter Try.func70, Try.ntmps70
        go_wp2
        go_ret
        exact ⟨ret_bool (by simp [inB, h1, h2, h3]), rfl⟩
      · go_enter Try.func70, Try.ntmps70
        go_wp2
        go_ret
        exact ⟨ret_bool (by simp [inB, h1, h2, h3]), rfl⟩
    · go_enter Try.func70, Try.ntmps70
      go_wp2
      go_ret
      exact ⟨ret_bool (by unfold inB; rw [show decide (0 ≤ n) = false by simpa using h2]; simp), rfl⟩
  · go_enter Try.func70, Try.ntmps70
    go_wp2
    go_ret
    exact ⟨ret_bool (by unfold inB; rw [show decide (0 ≤ a) = false by simpa using h1]; rfl), rfl⟩

set_option maxRecDepth 20000 in
theorem find_nil (b : Int) (w : World) : Calls Try.prog 69 #[.pointer none, .int .i64 b] w fun e w' => e = .returned (.tuple #[.pointer none, .int .i64 2]) ∧ w' = w := by
  go_enter Try.func69, Try.ntmps69
  go_wp2
  go_ret2
  exact ⟨rfl, rfl⟩
/-- What find answers. -/
def fndV (l : BL) (g : Nat) (b : Int) : Value := if tkn l b then .tuple #[.pointer (some ⟨g, (b - 1).toNat * 64, none⟩), .int .i64 0] else .tuple #[.pointer none, .int .i64 23]

set_option maxRecDepth 20000 in
set_option maxHeartbeats 1000000 in
theorem find_any (w : World) (p g h : Nat) (l : BL) (b : Int) (H : BAt w p g h l) (hb : -9223372036854775808 ≤ b ∧ b ≤ 9223372036854775807) : Calls Try.prog 69 #[.pointer (some ⟨p, 0, none⟩), .int .i64 b] w fun e w' => e = .returned (fndV l g b) ∧ w' = w := by
  obtain ⟨hw, c, d, cs, ds, k1, k2, k3, h1, h2, h3, h4, h5, h6, hB, hT⟩ := H
  have q0 := k1.cell 0 rfl
  have q1 := k1.cell 1 rfl
  have hmx := hw.max
  obtain ⟨n, hn⟩ : ∃ n, n = l.length := ⟨_, rfl⟩
  rw [← hn] at q0 q1 h1 h2 hmx
  have HN := hide hn
  clear hn
  by_cases hlt : b < 1
  · have hv : fndV l g b = .tuple #[.pointer none, .int .i64 23] := by
      unfold fndV tkn
      rw [show decide (1 ≤ b) = false by simpa using hlt]
      rfl
    rw [hv]
    clear hv hB hT k1 k2 k3
    go_enter Try.func69, Try.ntmps69
    go_wp2
    go_ret2
    exact ⟨rfl, rfl⟩
  · by_cases hgt : (n : Int) < b
    · have hv : fndV l g b = .tuple #[.pointer none, .int .i64 23] := by
        unfold fndV tkn
        rw [← unhide HN, show decide (b ≤ (n : Int)) = false by simpa using hgt]
        simp
      rw [hv]
      clear hv hB hT k1 k2 k3
      go_enter Try.func69, Try.ntmps69
      go_wp2
      go_ret2
      exact ⟨rfl, rfl⟩
    · obtain ⟨i, rfl⟩ : ∃ i : Nat, b = (i : Int) + 1 := ⟨(b - 1).toNat, by omega⟩
      have hi : i < l.length := by have := unhide HN; omega
      obtain ⟨x, hx⟩ : ∃ x, l[i]? = some x := ⟨_, List.getElem?_eq_getElem hi⟩
      have hv : fndV l g ((i : Int) + 1) = if (!x.isEmpty) then .tuple #[.pointer (some ⟨g, i * 64, none⟩), .int .i64 0] else .tuple #[.pointer none, .int .i64 23] := by
        unfold fndV
        rw [tkn_of hx, show ((i : Int) + 1 - 1).toNat = i by omega]
      rw [hv]
      have c2 := k3.cell i (hT i x hx)
      have hi1 : (i : Int) < (n : Int) := by have := unhide HN; omega
      cases hx0 : x.isEmpty with
      | true =>
        rw [hx0] at c2
        clear hv hB hT k1 k2 k3 hx hx0 hi
        go_enter Try.func69, Try.ntmps69
        go_wp2
        go_ret2
        exact ⟨rfl, rfl⟩
      | false =>
        rw [hx0] at c2
        clear hv hB hT k1 k2 k3 hx hx0 hi
        go_enter Try.func69, Try.ntmps69
        go_wp2
        go_ret2
        exact ⟨rfl, rfl⟩


set_option maxRecDepth 20000 in
set_option maxHeartbeats 1000000 in
theorem index_any (w : World) (g c : Nat) (l : BL) (cs : Array Value) (k : Blk w g 4 cs) (hT : Takens l cs) (hn : l.length ≤ 4096) : Calls Try.prog 74 #[.slice (some ⟨g, 0, none⟩) l.length c, .bool false] w fun e w' => e = .returned (.int .i64 (if freeAt l < l.length then (freeAt l : Int) else -1)) ∧ w' = w := by
  obtain ⟨n, hl⟩ : ∃ n, n = l.length := ⟨_, rfl⟩
  have HF : Hid (∀ i, i ≤ freeAt l → i < l.length → ∃ x, l[i]? = some x ∧ (x.isEmpty = decide (i = freeAt l))) := hide (by
    intro i hi hl
    refine ⟨l[i], List.getElem?_eq_getElem hl, ?_⟩
    by_cases e : i = freeAt l
    · rw [show decide (i = freeAt l) = true by simpa using e]
      have h2 : freeAt l < l.length := by omega
      have h3 : (l[freeAt l]).isEmpty = true := List.findIdx_getElem (w := h2)
      subst e
      exact h3
    · rw [show decide (i = freeAt l) = false by simpa using e]
      have := List.not_of_lt_findIdx (show i < l.findIdx (·.isEmpty) by unfold freeAt at hi e; omega)
      simpa using this)
  have HFL : Hid (freeAt l ≤ n) := hide (by rw [hl]; exact List.findIdx_le_length)
  rw [← hl] at hn ⊢
  obtain ⟨f, hf⟩ : ∃ f, f = freeAt l := ⟨_, rfl⟩
  rw [← hf] at HF HFL ⊢
  obtain ⟨r, hr⟩ : ∃ r : Int, r = if f < n then (f : Int) else -1 := ⟨_, rfl⟩
  rw [← hr]
  have HR := hide hr
  have HT := hide hT
  have HK := hide k
  have HN := hide hl
  clear hf hT k hl hr
  go_enter Try.func74, Try.ntmps74
  go_wp2
  go_loop [8] (fun i => ∃ k : Nat, i = .int .i64 k ∧ k ≤ f) (fun i => n - (intOf i).toNat)
  case atStart => exact ⟨0, rfl, Nat.zero_le _⟩
  case round =>
    obtain ⟨k, rfl, hk⟩ := hrel
    have hfn := unhide HFL
    by_cases hlt : k < n
    · obtain ⟨x, hx, hx2⟩ := unhide HF k hk (by have := unhide HN; omega)
      have c1 := (unhide HK).cell k (unhide HT k x hx)
      have hk1 : (k : Int) < (n : Int) := by omega
      have hk0 : (0 : Int) ≤ (k : Int) := by omega
      rw [hx2] at c1
      clear hx hx2
      by_cases e : k = f
      · rw [show decide (k = f) = true by simpa using e] at c1
        have HE := hide e
        clear e
        go_wp2
        go_ret
        exact ⟨ret_int (by have := unhide HE; have h2 := unhide HR; rw [if_pos (by omega)] at h2; omega), rfl⟩
      · rw [show decide (k = f) = false by simpa using e] at c1
        go_wp2
        go_round
        case rel => exact ⟨k + 1, by go_num, by omega⟩
        case measure => simp [intOf]; omega
    · go_wp2
      go_ret
      exact ⟨ret_int (by have h2 := unhide HR; rw [if_neg (by omega)] at h2; exact h2.symm), rfl⟩

theorem takeN_of (l : BL) : (if freeAt l < l.length then (freeAt l : Int) else -1) = takeN l - 1 := by unfold takeN; split <;> omega
set_option maxRecDepth 20000 in
theorem take_nil (w : World) : Calls Try.prog 68 #[.pointer none] w fun e w' => e = .returned (.tuple #[.int .i64 0, .int .i64 2]) ∧ w' = w := by
  go_enter Try.func68, Try.ntmps68
  go_wp2
  go_ret2
  exact ⟨rfl, rfl⟩
set_option maxRecDepth 20000 in
set_option maxHeartbeats 1000000 in
theorem take_any (w : World) (p g h : Nat) (l : BL) (H : BAt w p g h l) : Calls Try.prog 68 #[.pointer (some ⟨p, 0, none⟩)] w fun e w' => e = .returned (.tuple #[.int .i64 (takeN l), .int .i64 (takeE l)]) ∧ BAt w' p g h (takeL l) ∧ GrownS w w' (fun k => k = h) := by
  have HH := hide H
  obtain ⟨hw, c, d, cs, ds, k1, k2, k3, h1, h2, h3, h4, h5, h6, hB, hT⟩ := H
  have HI := hide (index_any w h d l ds k3 hT hw.max)
  have hmx := hw.max
  have q1 := k1.cell 1 rfl
  obtain ⟨n, hn⟩ : ∃ n, n = l.length := ⟨_, rfl⟩
  rw [← hn] at HI q1 h1 h2 hmx
  have HN := hide hn
  clear hn
  by_cases hf : freeAt l < l.length
  · obtain ⟨f, hfe⟩ : ∃ f, f = freeAt l := ⟨_, rfl⟩
    have hfn : f < n := by have := unhide HN; omega
    obtain ⟨x, hx⟩ : ∃ x, l[f]? = some x := ⟨_, List.getElem?_eq_getElem (by omega)⟩
    have hx0 : x = [] := by
      have h2 : (l[freeAt l]).isEmpty = true := List.findIdx_getElem (w := hf)
      have h3 : l[freeAt l]? = some x := by rw [← hfe]; exact hx
      rw [List.getElem?_eq_getElem hf] at h3
      cases h3
      exact List.isEmpty_iff.1 h2
    have c2 := k3.cell f (hT f x hx)
    have f2 := k3.frozen f
    rw [show takeN l = (f : Int) + 1 by unfold takeN; rw [if_pos hf, hfe], show takeE l = 0 by unfold takeE; rw [if_pos hf], show takeL l = l.set f z64 by unfold takeL; rw [if_pos hf, hfe]]
    rw [if_pos (by rw [← unhide HN] at hf; exact hf), ← hfe] at HI
    have HR : Hid (BAt (w.setCell ⟨h, f, none⟩ (.bool true)) p g h (l.set f z64) ∧ GrownS w (w.setCell ⟨h, f, none⟩ (.bool true)) (fun k => k = h)) := hide (by
      have hg := GrownS.of (S := fun k => k = h) (grown_setCell w ⟨h, f, none⟩ (.bool true)) (fun k e => by simpa using e)
      have hne := (unhide HH).ne
      refine ⟨⟨hw.set _ (.inr (by simp [z64])), c, d, cs, ds.setIfInBounds f (.bool true), ?_, k2.grownS hg hne.2.2, k3.set f (.bool true), by rw [List.length_set, ← unhide HN]; exact h1, by rw [List.length_set, ← unhide HN]; exact h2, h3, by simpa using h4, h5, h6, ?_, ?_⟩, hg⟩
      · have := k1.grownS hg hne.2.1
        rwa [List.length_set]
      · exact hB.same (by omega) (fun j hj => by rw [z64_at, bAt_of hx, hx0]; rfl)
      · exact hT.set (x := z64) (by omega) (by omega))
    have hfi : (f : Int) < (n : Int) := by omega
    have hf0 : (0 : Int) ≤ (f : Int) := by omega
    clear hB hT k1 k2 k3 hx hf hfe HH
    go_enter Try.func68, Try.ntmps68
    go_wp2_with fail
    refine (unhide HI).mono ?_
    rintro e w1 ⟨rfl, hw1⟩
    rw [show w1 = w from hw1]
    clear hw1
    go_wp2
    go_ret2
    exact ⟨rfl, unhide HR⟩
  · rw [show takeN l = 0 by unfold takeN; rw [if_neg hf], show takeE l = 20 by unfold takeE; rw [if_neg hf], show takeL l = l by unfold takeL; rw [if_neg hf]]
    rw [if_neg (by rw [← unhide HN] at hf; exact hf)] at HI
    clear hB hT k1 k2 k3 hf
    go_enter Try.func68, Try.ntmps68
    go_wp2_with fail
    refine (unhide HI).mono ?_
    rintro e w1 ⟨rfl, hw1⟩
    rw [show w1 = w from hw1]
    clear hw1
    go_wp2
    go_ret2
    exact ⟨rfl, unhide HH, grownS_of_below (Below.refl _ _)⟩

end Go.Proofs.Ytcfhgjlihifmnaa

/-
  The contract of 'Join', and of the chapter's examples ('awake'): it answers true and writes nothing that was there.
-/
import Derived.Test.YtlkeefjbjhmccaaDoorQuote
namespace Go.Proofs.YtlkeefjbjhmccaaDoor
open Go.RowKit

set_option maxHeartbeats 400000 in
theorem join_some (bk o c : Nat) (xs : List ByteArray) (sep : ByteArray) (w : World) (hcells : ∀ (j : Nat) x, xs[j]? = some x → w.cell? ⟨bk, o + j, none⟩ = some (.string x)) (hbk : bk < w.heap.size) (hN : xs.length ≤ 140737488355328) (hcap : xs.length ≤ c) (hlen : (Lib.join (xs.map (·.data.toList)) sep.data.toList).length ≤ 140737488355328) :
    Calls Tryd.prog 30 #[.string sep, .slice (some ⟨bk, o, none⟩) xs.length c] w fun e w' => e = .returned (.string ⟨(Lib.join (xs.map (·.data.toList)) sep.data.toList).toArray⟩) ∧ Below w.heap.size w w' := by
  have HC := hide hcells
  have HL := hide hlen
  clear hcells hlen
  go_enter Tryd.func30, Tryd.ntmps30
  go_wp2_with fail
  refine (Tryd.strings_Join bk o c xs sep _ (unhide HC) hbk hN hcap (unhide HL)).mono ?_
  rintro e w1 ⟨rfl, b1⟩
  go_wp2_with fail
  go_ret
  exact ⟨rfl, b1⟩

set_option maxHeartbeats 400000 in
theorem join_none (a : Option Addr) (c : Nat) (sep : ByteArray) (w : World) :
    Calls Tryd.prog 30 #[.string sep, .slice a 0 c] w fun e w' => e = .returned (.string ⟨#[]⟩) ∧ w' = w := by
  go_enter Tryd.func30, Tryd.ntmps30
  go_wp2_with fail
  refine (Tryd.strings_Join_none a c sep _).mono ?_
  rintro e w1 ⟨rfl, rfl⟩
  go_wp2_with fail
  go_ret
  exact ⟨rfl, rfl⟩

theorem n1 (w : World) : Calls Tryd.prog 22 #[.string ⟨#[48, 48, 55]⟩, .int .i64 9] w fun e w' => e = .returned (.tuple #[.int .i64 7, .int .i64 0]) ∧ w' = w := by
  have h := number_any ⟨#[48, 48, 55]⟩ 9 w (by decide) (by decide) (by decide)
  have e1 : numberV ⟨#[48, 48, 55]⟩ 9 = 7 := by kernel_rfl
  have e2 : numberE ⟨#[48, 48, 55]⟩ 9 = 0 := by kernel_rfl
  rw [e1, e2] at h
  exact h
theorem n2 (w : World) : Calls Tryd.prog 22 #[.string ⟨#[49, 48]⟩, .int .i64 9] w fun e w' => e = .returned (.tuple #[.int .i64 0, .int .i64 3]) ∧ w' = w := by
  have h := number_any ⟨#[49, 48]⟩ 9 w (by decide) (by decide) (by decide)
  have e1 : numberV ⟨#[49, 48]⟩ 9 = 0 := by kernel_rfl
  have e2 : numberE ⟨#[49, 48]⟩ 9 = 3 := by kernel_rfl
  rw [e1, e2] at h
  exact h
theorem n3 (w : World) : Calls Tryd.prog 22 #[.string ⟨#[45, 49]⟩, .int .i64 9] w fun e w' => e = .returned (.tuple #[.int .i64 0, .int .i64 10]) ∧ w' = w := by
  have h := number_any ⟨#[45, 49]⟩ 9 w (by decide) (by decide) (by decide)
  have e1 : numberV ⟨#[45, 49]⟩ 9 = 0 := by kernel_rfl
  have e2 : numberE ⟨#[45, 49]⟩ 9 = 10 := by kernel_rfl
  rw [e1, e2] at h
  exact h
theorem q1 (w : World) (he : Env w) : Calls Tryd.prog 28 #[.string ⟨#[105, 116, 39, 115]⟩] w fun e w' => e = .returned (.string ⟨#[39, 105, 116, 39, 92, 39, 39, 115, 39]⟩) ∧ Below w.heap.size w w' := by
  have h := quote_any ⟨#[105, 116, 39, 115]⟩ w he (by decide)
  have e1 : (quoteL (⟨#[105, 116, 39, 115]⟩ : ByteArray).data.toList).toArray = #[39, 105, 116, 39, 92, 39, 39, 115, 39] := by kernel_rfl
  rw [e1] at h
  exact h
theorem u1 (w : World) (he : Env w) : Calls Tryd.prog 26 #[.string ⟨#[39, 105, 116, 39, 92, 39, 39, 115, 39]⟩] w fun e w' => e = .returned (.tuple #[.string ⟨#[105, 116, 39, 115]⟩, .int .i64 0]) ∧ Below w.heap.size w w' := by
  have h := unquote_any ⟨#[39, 105, 116, 39, 92, 39, 39, 115, 39]⟩ w he (by decide)
  have e1 : (unqV (⟨#[39, 105, 116, 39, 92, 39, 39, 115, 39]⟩ : ByteArray).data.toList).toArray = #[105, 116, 39, 115] := by kernel_rfl
  have e2 : unqE (⟨#[39, 105, 116, 39, 92, 39, 39, 115, 39]⟩ : ByteArray).data.toList = 0 := by kernel_rfl
  rw [e1, e2] at h
  exact h
theorem f1 (w : World) : Calls Tryd.prog 18 #[.string ⟨#[97, 98, 49, 45, 99]⟩] w fun e w' => e = .returned (.int .i64 3) ∧ w' = w := by
  have h := front_any ⟨#[97, 98, 49, 45, 99]⟩ w (by decide)
  have e1 : ((frontN (⟨#[97, 98, 49, 45, 99]⟩ : ByteArray).data.toList : Nat) : Int) = 3 := by kernel_rfl
  rw [e1] at h
  exact h
theorem m1 (w : World) : Calls Tryd.prog 20 #[.string ⟨#[97, 95, 49]⟩] w fun e w' => e = .returned (.bool true) ∧ w' = w := by
  have h := name_any ⟨#[97, 95, 49]⟩ w (by decide)
  have e1 : nameB ⟨#[97, 95, 49]⟩ = true := by kernel_rfl
  rw [e1] at h
  exact h
theorem m2 (w : World) : Calls Tryd.prog 20 #[.string ⟨#[49, 97]⟩] w fun e w' => e = .returned (.bool false) ∧ w' = w := by
  have h := name_any ⟨#[49, 97]⟩ w (by decide)
  have e1 : nameB ⟨#[49, 97]⟩ = false := by kernel_rfl
  rw [e1] at h
  exact h
theorem t1 (w : World) (he : Env w) : Calls Tryd.prog 24 #[.int .i64 (-120)] w fun e w' => e = .returned (.string ⟨#[45, 49, 50, 48]⟩) ∧ Below w.heap.size w w' := by
  have h := text_any (-120) w he (by decide) (by decide)
  have e1 : (Lib.itoa (-120)).toArray = #[45, 49, 50, 48] := by kernel_rfl
  rw [e1] at h
  exact h

theorem j1 (w : World) : Calls Tryd.prog 30 #[.string ⟨#[47]⟩, .slice (some ⟨w.heap.size, 0, none⟩) 3 3] (w.alloc (.cells #[.string ⟨#[97]⟩, .string ⟨#[]⟩, .string ⟨#[98]⟩] 9)) fun e w' => e = .returned (.string ⟨#[97, 47, 47, 98]⟩) ∧ Below w.heap.size w w' := by
  have h := join_some w.heap.size 0 3 [⟨#[97]⟩, ⟨#[]⟩, ⟨#[98]⟩] ⟨#[47]⟩ (w.alloc (.cells #[.string ⟨#[97]⟩, .string ⟨#[]⟩, .string ⟨#[98]⟩] 9)) (by
    intro j x hj
    match j, hj with
    | 0, hj => simp at hj; subst hj; go_simp
    | 1, hj => simp at hj; subst hj; go_simp
    | 2, hj => simp at hj; subst hj; go_simp) (by simp) (by decide) (by decide) (by decide)
  have e1 : (Lib.join (([⟨#[97]⟩, ⟨#[]⟩, ⟨#[98]⟩] : List ByteArray).map (·.data.toList)) (⟨#[47]⟩ : ByteArray).data.toList).toArray = #[97, 47, 47, 98] := by kernel_rfl
  rw [e1] at h
  refine h.mono fun e w' ⟨he, hb⟩ => ⟨he, ?_⟩
  exact ((Below.refl _ _).alloc (Nat.le_refl _) _).trans (hb.mono (by simp))

set_option maxHeartbeats 2000000 in
theorem awake_any (w : World) (he : Env w) :
    Calls Tryd.prog 17 #[] w fun e w' => e = .returned (.bool true) ∧ Below w.heap.size w w' := by
  go_enter Tryd.func17, Tryd.ntmps17
  go_wp2_with fail
  refine (n1 _).mono ?_
  rintro e w1 ⟨rfl, rfl⟩
  go_wp2_with fail
  refine (n2 _).mono ?_
  rintro e w1 ⟨rfl, rfl⟩
  go_wp2_with fail
  refine (n3 _).mono ?_
  rintro e w1 ⟨rfl, rfl⟩
  go_wp2_with fail
  refine (q1 _ he).mono ?_
  rintro e w2 ⟨rfl, b2⟩
  go_wp2_with fail
  refine (u1 _ (he.below b2)).mono ?_
  rintro e w3 ⟨rfl, b3⟩
  have b13 := b2.trans (b3.mono b2.size)
  go_wp2_with fail
  refine (f1 _).mono ?_
  rintro e w4 ⟨rfl, rfl⟩
  go_wp2_with fail
  refine (m1 _).mono ?_
  rintro e w4 ⟨rfl, rfl⟩
  go_wp2_with fail
  refine (m2 _).mono ?_
  rintro e w4 ⟨rfl, rfl⟩
  go_wp2_with fail
  refine (t1 _ (he.below b13)).mono ?_
  rintro e w5 ⟨rfl, b5⟩
  have b15 := b13.trans (b5.mono b13.size)
  clear b2 b3 b13 b5 he
  go_wp2_with fail
  refine (j1 _).mono ?_
  rintro e w6 ⟨rfl, b6⟩
  go_wp2_with fail
  go_ret
  exact ⟨rfl, b15.trans (b6.mono b15.size)⟩

end Go.Proofs.YtlkeefjbjhmccaaDoor

/-
  The contract of the document's 'Join'.
-/
import Derived.Test.YtlkeefjbjhmccaaDoorAwake
namespace Go.Proofs.YtlkeefjbjhmccaaDoor
open Go.RowKit

theorem joinTail_snoc (sep : List UInt8) (r : List (List UInt8)) (y : List UInt8) : Lib.joinTail sep (r ++ [y]) = Lib.joinTail sep r ++ (sep ++ y) := by
  simp [Lib.joinTail]
theorem join_snoc (sep : List UInt8) : ∀ (l : List (List UInt8)) (y : List UInt8), l ≠ [] → Lib.join (l ++ [y]) sep = Lib.join l sep ++ sep ++ y
  | [], _, h => absurd rfl h
  | x :: r, y, _ => by rw [List.cons_append, Lib.join_cons, Lib.join_cons, joinTail_snoc]; simp

/-- The first k texts, one behind the other. -/
def outL (xs : List ByteArray) (sep : ByteArray) (k : Nat) : List UInt8 := Lib.join ((xs.take k).map (·.data.toList)) sep.data.toList

theorem outL_zero (xs : List ByteArray) (sep : ByteArray) : outL xs sep 0 = [] := rfl
theorem outL_one (xs : List ByteArray) (sep : ByteArray) (h : 0 < xs.length) : outL xs sep 1 = xs[0].data.toList := by
  match xs, h with
  | x :: r, _ => simp [outL, Lib.join_one]
theorem outL_succ (xs : List ByteArray) (sep : ByteArray) (k : Nat) (h0 : 0 < k) (h : k < xs.length) : outL xs sep (k + 1) = outL xs sep k ++ sep.data.toList ++ xs[k].data.toList := by
  unfold outL
  rw [List.take_succ_eq_append_getElem h, List.map_append]
  refine join_snoc _ _ _ ?_
  intro e
  have e1 : ((xs.take k).map (·.data.toList)).length = 0 := by rw [e]; rfl
  rw [List.length_map, List.length_take] at e1
  omega
theorem app_data (a b : ByteArray) : (a ++ b).data.toList = a.data.toList ++ b.data.toList := by simp
theorem app_size (a b : ByteArray) : (a ++ b).size = a.size + b.size := by simp

set_option maxHeartbeats 1000000 in
theorem rjoin_some (b o c : Nat) (xs : List ByteArray) (sep : ByteArray) (w : World) (hc : ∀ j (hj : j < xs.length), w.cell? ⟨b, o + j, none⟩ = some (.string xs[j])) (hn : xs.length ≤ 50) (hsep : sep.size ≤ 200) (hx : ∀ j (hj : j < xs.length), xs[j].size ≤ 200) :
    Calls Tryd.prog 31 #[.string sep, .slice (some ⟨b, o, none⟩) xs.length c] w fun e w' => e = .returned (.string ⟨(Lib.join (xs.map (·.data.toList)) sep.data.toList).toArray⟩) ∧ w' = w := by
  have HC := hide hc
  have HX := hide hx
  clear hc hx
  go_enter Tryd.func31, Tryd.ntmps31
  go_wp2
  go_loop [5, 6] (fun t i => ∃ (k : Nat) (S : ByteArray), k ≤ xs.length ∧ i = .int .i64 k ∧ t = .string S ∧ S.size ≤ 400 * k ∧ S.data.toList = outL xs sep k) (fun _ i => xs.length - (intOf i).toNat)
  case atStart => exact ⟨0, ⟨#[]⟩, Nat.zero_le _, rfl, rfl, Nat.le_refl _, rfl⟩
  case round =>
    obtain ⟨k, S, hk, rfl, rfl, hS, hO⟩ := hrel
    have HO := hide hO
    clear hO
    by_cases hlt : k < xs.length
    · have hcx := (unhide HC) k hlt
      have hxx := (unhide HX) k hlt
      by_cases h0 : k = 0
      · subst h0
        rw [Nat.add_zero] at hcx
        have hsz := app_size S xs[0]
        have HSZ := hide hsz
        clear hsz
        go_wp2
        go_round
        case rel => exact ⟨1, S ++ xs[0], by omega, by go_num, rfl, by rw [unhide HSZ]; omega, by rw [app_data, unhide HO, outL_zero, outL_one xs sep hlt]; rfl⟩
        case measure => simp [intOf]; omega
      · have hp : 0 < (k : Int) := by omega
        have hsz := app_size S sep
        have hsz2 := app_size (S ++ sep) xs[k]
        have hle : (S ++ sep).size ≤ 20400 := by omega
        have HSZ := hide hsz
        have HSZ2 := hide hsz2
        clear hsz hsz2
        go_wp2
        go_round
        case rel => exact ⟨k + 1, S ++ sep ++ xs[k], by omega, by go_num, rfl, by rw [unhide HSZ2, unhide HSZ]; omega, by rw [app_data, app_data, unhide HO, outL_succ xs sep k (by omega) hlt]⟩
        case measure => simp [intOf]; omega
    · go_wp2
      go_ret
      refine ⟨ret_str ?_, rfl⟩
      have e : outL xs sep k = Lib.join (xs.map (·.data.toList)) sep.data.toList := by
        unfold outL; rw [List.take_of_length_le (by omega)]
      rw [← e, ← unhide HO]

set_option maxHeartbeats 400000 in
theorem rjoin_none (a : Option Addr) (c : Nat) (sep : ByteArray) (w : World) :
    Calls Tryd.prog 31 #[.string sep, .slice a 0 c] w fun e w' => e = .returned (.string ⟨#[]⟩) ∧ w' = w := by
  go_enter Tryd.func31, Tryd.ntmps31
  go_wp2
  refine wp_loop_rounds 1 ?_
  rw [rounds_succ]
  go_wp2
  go_ret
  exact ⟨rfl, rfl⟩

end Go.Proofs.YtlkeefjbjhmccaaDoor

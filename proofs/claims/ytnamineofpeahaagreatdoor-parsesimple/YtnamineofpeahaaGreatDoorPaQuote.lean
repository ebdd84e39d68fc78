/-
  chars.Quote.
-/
import Derived.Test.YtnamineofpeahaaGreatDoorM03
import Derived.Test.YtnamineofpeahaaGreatDoorShelfQ
import Derived.Test.YtnamineofpeahaaGreatDoorQuoteP
import Derived.Lib.ReplaceLaws
namespace Go.Proofs.YtnamineofpeahaaGreatDoor
open Go.RowKit

theorem ret_str {a b : ByteArray} (h : a = b) : Ending.returned (.string a) = .returned (.string b) := by rw [h]
set_option maxHeartbeats 400000 in
theorem quote_any (s : ByteArray) (w : World) (m : Int) (hm : w.cell? ⟨1, 0, none⟩ = some (.int .i64 m)) (hs : s.size ≤ 10000) :
 Calls Tryz.prog 10 #[.string s] w fun e w' => e = .returned (.string ⟨(quoteL s.data.toList).toArray⟩) ∧ Below w.heap.size w w' := by
 have hc := Lib.countB_mul_le ⟨#[39]⟩ (by decide) s.size s (Nat.le_refl _)
 have hc' : Lib.countB s ⟨#[39]⟩ ≤ 10000 := by
  have : (⟨#[39]⟩ : ByteArray).size = 1 := rfl
  rw [this] at hc; omega
 have hlen : s.size + Lib.countB s ⟨#[39]⟩ * (⟨#[39, 92, 39, 39]⟩ : ByteArray).size ≤ 140737488355328 := by
  have : (⟨#[39, 92, 39, 39]⟩ : ByteArray).size = 4 := rfl
  rw [this]; omega
 have HL := hide hlen
 clear hlen hc hc'
 go_enter Tryz.func10, Tryz.ntmps10
 go_wp2_with fail
 refine (Tryz.strings_ReplaceAll s ⟨#[39]⟩ ⟨#[39, 92, 39, 39]⟩ m w (by omega) hm (by decide) (uh HL)).mono ?_
 rintro e w1 ⟨rfl, b1⟩
 have er : Lib.replaceAll s.data.toList (⟨#[39]⟩ : ByteArray).data.toList (⟨#[39, 92, 39, 39]⟩ : ByteArray).data.toList = qBody s.data.toList := replace_quote _
 rw [er]
 have hq := qBody_len s.data.toList
 have hql : (qBody s.data.toList).length ≤ 40000 := by
  have : s.data.toList.length = s.size := by simp
  omega
 clear er hq
 go_wp2_with fail
 go_ret
 exact ⟨ret_str rfl, b1⟩


end Go.Proofs.YtnamineofpeahaaGreatDoor

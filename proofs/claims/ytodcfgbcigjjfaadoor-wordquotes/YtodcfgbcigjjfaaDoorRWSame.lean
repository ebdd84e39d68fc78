/-
  The document's Same.
-/
import Derived.Test.YtodcfgbcigjjfaaDoorWSame
namespace Go.Proofs.YtodcfgbcigjjfaaDoor
open Go.RowKit

set_option maxRecDepth 20000 in
set_option maxHeartbeats 4000000 in
theorem rsame_all : ∀ N : Nat, SameN 10 N
  | 0 => fun a b x y w A B hN => absurd hN (by cases a <;> simp)
  | N + 1 => by
    intro a b x y w A B hN hx hy hA hB
    have HS := hide (rsame_all N)
    obtain ⟨ada, capa, rfl, hla⟩ := hx.len
    obtain ⟨adb, capb, rfl, hlb⟩ := hy.len
    by_cases hab : a.length = b.length
    · have HX := hide hx
      have HY := hide hy
      have HAB := hide hab
      clear hx hy
      rw [← hab]
      have HSN := hide hN
      clear hab hlb hN
      go_enter Tryd.func10, Tryd.ntmps10
      go_wp2
      go_loopw [5] (fun i wr => ∃ k : Nat, k ≤ a.length ∧ i = .int .i64 k ∧ Hid (sameW (a.drop k) (b.drop k) = sameW a b) ∧ Hid (Below w.heap.size w wr)) (fun i _ => a.length - (intOf i).toNat)
      case atStart => exact ⟨0, Nat.zero_le _, rfl, hide rfl, hide (Below.refl _ _)⟩
      case round =>
        obtain ⟨k, hk, rfl, HE, HB⟩ := hrel
        by_cases hlt : k < a.length
        · obtain ⟨p, hp⟩ := get_ex hlt
          obtain ⟨q, hq⟩ := get_ex (l := b) (k := k) (by have := unhide HAB; omega)
          obtain ⟨ga, oa, va, ea, hga, a0, a1, a2, a3, a4, a5, hsa⟩ := ((unhide HX).below (unhide HB) hA).part hp
          have hy' := (unhide HY).below (unhide HB) hB
          rw [← unhide HAB] at hy'
          obtain ⟨gb, ob, vb, eb, hgb, b0, b1, b2, b3, b4, b5, hsb⟩ := hy'.part hq
          obtain ⟨ada', capa', rfl, _⟩ := hsa.len
          obtain ⟨adb', capb', rfl, _⟩ := hsb.len
          have hga' := Nat.lt_of_lt_of_le (hA _ hga) (unhide HB).size
          have hgb' := Nat.lt_of_lt_of_le (hB _ hgb) (unhide HB).size
          have HSP : Hid (∀ w1, Below wr.heap.size wr w1 → Calls Tryd.prog 10 #[.slice ada' p.sub.length capa', .slice adb' q.sub.length capb'] w1 fun e w' => e = .returned (.bool (sameW p.sub q.sub)) ∧ Below w1.heap.size w1 w') := hide (fun w1 h1 =>
            unhide HS p.sub q.sub _ _ w1 A B (by have := sub_lt p a (mem_of hp); have := unhide HSN; omega) (hsa.below h1 (fun k h => Nat.lt_of_lt_of_le (hA k h) (unhide HB).size)) (hsb.below h1 (fun k h => Nat.lt_of_lt_of_le (hB k h) (unhide HB).size))
              (fun k h => Nat.lt_of_lt_of_le (hA k h) (Nat.le_trans (unhide HB).size h1.size)) (fun k h => Nat.lt_of_lt_of_le (hB k h) (Nat.le_trans (unhide HB).size h1.size)))
          have HBB : Hid (∀ x y, Below wr.heap.size wr ((wr.alloc x).alloc y)) := hide (fun x y => ((Below.refl _ wr).alloc (Nat.le_refl _) _).alloc (by simp) _)
          have HST : Hid (sameW (a.drop k) (b.drop k) = ((headP p q && sameW p.sub q.sub) && sameW (a.drop (k + 1)) (b.drop (k + 1)))) := hide ((drop_same hp hq).trans (by rw [sameP_head]))
          clear hp hq hsa hsb hy' hga hgb
          subst ea eb
          rcases Bool.eq_false_or_eq_true (sameW p.sub q.sub) with hpq | hpq
          all_goals
            rw [hpq] at HSP HST
            clear hpq
            go_wp2_with (go_at_call 10; refine (unhide HSP _ (unhide HBB _ _)).mono ?_; rintro e w1 ⟨rfl, b1⟩)
            all_goals
              try rw [BA_toList, BA_toList] at *
              first
              | (go_ret
                 refine ⟨ret_bool (by rw [← unhide HE, unhide HST]; simp [headP, *]), ?_⟩
                 first
                 | exact (unhide HB).trans ((unhide HBB _ _).mono (unhide HB).size)
                 | exact (unhide HB).trans (((unhide HBB _ _).trans (b1.mono (by simp; omega))).mono (unhide HB).size))
              | (go_roundw
                 case rel => exact ⟨k + 1, by omega, by go_num, hide (by rw [← unhide HE, unhide HST]; simp [headP, *]), hide ((unhide HB).trans (((unhide HBB _ _).trans (b1.mono (by simp; omega))).mono (unhide HB).size))⟩
                 case measure => simp [intOf]; omega)
        · go_wp2
          go_ret
          exact ⟨ret_bool (by rw [← unhide HE, List.drop_eq_nil_of_le (by omega), List.drop_eq_nil_of_le (by have := unhide HAB; omega), sameW_nil]), unhide HB⟩
    · have hne : ((a.length : Int) == (b.length : Int)) = false := by rw [beq_eq_false_iff_ne]; omega
      go_enter Tryd.func10, Tryd.ntmps10
      go_wp2
      go_ret
      exact ⟨ret_bool (sameW_len hab).symm, Below.refl _ _⟩
theorem rsame_any (a b : List Prt) (x y : Value) (w : World) (A B : Nat → Prop) (hx : WAt w A x a) (hy : WAt w B y b) (hA : ∀ k, A k → k < w.heap.size) (hB : ∀ k, B k → k < w.heap.size) :
    Calls Tryd.prog 10 #[x, y] w fun e w' => e = .returned (.bool (sameW a b)) ∧ Below w.heap.size w w' := rsame_all _ a b x y w A B (Nat.le_refl _) hx hy hA hB

end Go.Proofs.YtodcfgbcigjjfaaDoor

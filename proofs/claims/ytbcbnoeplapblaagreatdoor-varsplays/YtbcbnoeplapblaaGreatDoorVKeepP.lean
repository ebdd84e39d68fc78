/-
  What is set has its value, plainly.
-/
import Derived.Test.YtbcbnoeplapblaaGreatDoorVLaw
namespace Go.Proofs.YtbcbnoeplapblaaGreatDoor
open Go.RowKit Go.Maps

/-- A call that answers an error changes nothing of the variables and the arguments. -/
theorem step_err {s : VSt} {o : OpP} (h : (stepS s o).2 ≠ 0) : (stepS s o).1.L = s.L ∧ (stepS s o).1.args = s.args := by
  unfold stepS at h ⊢
  unfold unsS expS rdoS shfS setS at h ⊢
  repeat' split
  all_goals first | exact ⟨rfl, rfl⟩ | (exfalso; simp_all; done)
/-- What a call leaves of a variable's value. -/
structure Vals (x y : Vr) : Prop where
  value : y.value = x.value
  set : y.set = x.set
theorem Vals.refl {x : Vr} : Vals x x := ⟨rfl, rfl⟩
theorem put_vals {L : List Vr} {n m : List UInt8} {x : Vr} (hx : x.name = m) (h : m = n → Vals (getL L n) x) : Vals (getL L n) (getL (putL L x) n) := by
  rw [get_put]
  split
  · rename_i e
    exact h (hx.symm.trans e)
  · exact .refl
theorem step_other {s : VSt} {o : OpP} {n : List UInt8} (h : o.name ≠ n ∨ 3 ≤ kndI o.kind) : Vals (getL s.L n) (getL (stepS s o).1.L n) := by
  unfold stepS
  repeat' split
  · rename_i h2
    have hne : o.name ≠ n := by rcases h with h | h; exact h; omega
    unfold unsS
    repeat' split
    · exact .refl
    · exact .refl
    · simp only
      rw [get_del, if_neg (fun e => hne e.symm)]
      exact .refl
  · unfold expS
    split
    · exact .refl
    · exact put_vals (m := o.name) rfl (fun e => by subst e; exact ⟨rfl, rfl⟩)
  · unfold rdoS
    split
    · exact .refl
    · exact put_vals (m := o.name) rfl (fun e => by subst e; exact ⟨rfl, rfl⟩)
  · exact .refl
  · unfold shfS
    split <;> exact .refl
  · exact .refl
  · have hr := knd_range o.kind
    have hne : o.name ≠ n := by rcases h with h | h; exact h; omega
    unfold setS
    repeat' split
    · exact .refl
    · exact .refl
    · exact put_vals (m := o.name) rfl (fun e => absurd e hne)
theorem step_set {s : VSt} {o : OpP} (h0 : (stepS s o).2 = 0) (h : kndI o.kind < 2) : (getL (stepS s o).1.L o.name).value = o.value ∧ (getL (stepS s o).1.L o.name).set = true := by
  unfold stepS at h0 ⊢
  rw [if_neg (by omega), if_neg (by omega), if_neg (by omega), if_neg (by omega), if_neg (by omega), if_neg (by omega)] at h0 ⊢
  unfold setS at h0 ⊢
  split
  · rename_i h1
    rw [if_pos h1] at h0
    cases h0
  rename_i h1
  rw [if_neg h1] at h0
  split
  · rename_i h2
    rw [if_pos h2] at h0
    cases h0
  · simp only
    rw [get_put, if_pos rfl]
    exact ⟨rfl, rfl⟩
theorem step_uns {s : VSt} {o : OpP} (h0 : (stepS s o).2 = 0) (h : kndI o.kind = 2) : getL (stepS s o).1.L o.name = vr0 := by
  unfold stepS at h0 ⊢
  rw [if_pos h] at h0 ⊢
  unfold unsS at h0 ⊢
  split
  · rename_i h1
    rw [if_pos h1] at h0
    cases h0
  rename_i h1
  rw [if_neg h1] at h0
  split
  · rename_i h2
    rw [if_pos h2] at h0
    cases h0
  · simp only
    rw [get_del, if_pos rfl]
theorem VAt.tight {w : World} {b : Nat} {X : Nat → Prop} {s : VSt} (h : VAt w b X s) : VAt w b (fun k => X k ∧ k < w.heap.size) s := by
  obtain ⟨v, m, h1, h2, h3, x1, x2, x3⟩ := h
  exact ⟨v, m, h1, h2, h3, ⟨x1, h1.lt⟩, fun k hk => ⟨x2 k hk, h2.lt hk⟩, fun k hk => ⟨x3 k hk, h3.lt hk⟩⟩

end Go.Proofs.YtbcbnoeplapblaaGreatDoor

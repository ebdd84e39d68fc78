/-
  What follows, plainly: what may only be read stays; what is set has its value.
-/
import Derived.Test.YtbcbnoeplapblaaGreatDoorVFew
import Derived.Test.YtbcbnoeplapblaaGreatDoorVPar
namespace Go.Proofs.YtbcbnoeplapblaaGreatDoor
open Go.RowKit Go.Maps

/-- What a call leaves of a variable that may only be read. -/
structure Stays (x y : Vr) : Prop where
  value : y.value = x.value
  set : y.set = x.set
  ro : y.ro = true
theorem Stays.refl {x : Vr} (h : x.ro = true) : Stays x x := ⟨rfl, rfl, h⟩
theorem Stays.trans {x y z : Vr} (h : Stays x y) (h2 : Stays y z) : Stays x z := ⟨h2.value.trans h.value, h2.set.trans h.set, h2.ro⟩
theorem set_stays {s : VSt} {n m v : List UInt8} (h : (getL s.L n).ro = true) : Stays (getL s.L n) (getL (setS s m v).1.L n) := by
  unfold setS
  split
  · exact .refl h
  split
  · exact .refl h
  · rename_i h2
    simp only
    rw [get_put]
    split
    · rename_i e
      have e : m = n := e
      rw [e] at h2
      exact absurd h h2
    · exact .refl h
theorem uns_stays {s : VSt} {n m : List UInt8} (h : (getL s.L n).ro = true) : Stays (getL s.L n) (getL (unsS s m).1.L n) := by
  unfold unsS
  split
  · exact .refl h
  split
  · exact .refl h
  · rename_i h2
    simp only
    rw [get_del]
    split
    · rename_i e
      rw [← e] at h2
      exact absurd h h2
    · exact .refl h
theorem exp_stays {s : VSt} {n m : List UInt8} (h : (getL s.L n).ro = true) : Stays (getL s.L n) (getL (expS s m).1.L n) := by
  unfold expS
  split
  · exact .refl h
  · simp only
    rw [get_put]
    split
    · rename_i e
      have e : m = n := e
      rw [e]
      exact ⟨rfl, rfl, h⟩
    · exact .refl h
theorem rdo_stays {s : VSt} {n m : List UInt8} (h : (getL s.L n).ro = true) : Stays (getL s.L n) (getL (rdoS s m).1.L n) := by
  unfold rdoS
  split
  · exact .refl h
  · simp only
    rw [get_put]
    split
    · rename_i e
      have e : m = n := e
      rw [e]
      exact ⟨rfl, rfl, rfl⟩
    · exact .refl h
theorem step_stays {s : VSt} {n : List UInt8} (o : OpP) (h : (getL s.L n).ro = true) : Stays (getL s.L n) (getL (stepS s o).1.L n) := by
  unfold stepS
  repeat' split
  · exact uns_stays h
  · exact exp_stays h
  · exact rdo_stays h
  · exact .refl h
  · unfold shfS
    split
    · exact .refl h
    · exact .refl h
  · exact .refl h
  · exact set_stays h
/-- Set and Unset of it are refused. -/
theorem step_reads {s : VSt} {o : OpP} (h : (getL s.L o.name).ro = true) (hn : namL o.name = true) (hk : kndI o.kind < 3) : (stepS s o).2 = 15 := by
  unfold stepS
  have h3 : kndI o.kind ≠ 3 := by omega
  have h4 : kndI o.kind ≠ 4 := by omega
  have h5 : kndI o.kind ≠ 5 := by omega
  have h6 : kndI o.kind ≠ 6 := by omega
  have h7 : kndI o.kind ≠ 7 := by omega
  rw [if_neg h3, if_neg h4, if_neg h5, if_neg h6, if_neg h7]
  split
  · unfold unsS
    rw [if_neg (by simp [hn]), if_pos h]
  · unfold setS
    rw [if_neg (by simp [hn]), if_pos h]
theorem opB_of {L : List OpP} {k : Nat} {o : OpP} (h : fwB L = true) (ho : L[k]? = some o) : o.name.length ≤ 200 ∧ o.value.length ≤ 200 ∧ o.args.length ≤ 20 := by
  unfold fwB at h
  rw [Bool.and_eq_true, List.all_eq_true] at h
  have := h.2 o (List.mem_of_getElem? ho)
  unfold opB txB at this
  simp only [Bool.and_eq_true, decide_eq_true_eq] at this
  exact ⟨this.1.1, this.1.2, this.2.1⟩
theorem len_of {L : List OpP} (h : fwB L = true) : L.length ≤ 60 := by
  unfold fwB at h
  rw [Bool.and_eq_true] at h
  simpa using h.1
/-- The call that stands at a place. -/
theorem OpsAt.op {w : World} {ad : Option Addr} {n cap k : Nat} {L : List OpP} {o : OpP} (h : OpsAt w (.slice ad n cap) L) (ho : L[k]? = some o) : ∃ g q u, ad = some ⟨g, q, none⟩ ∧ g < w.heap.size ∧ w.cell? ⟨g, q + k * 5, none⟩ = some (.int .i64 o.kind) ∧ w.cell? ⟨g, q + k * 5 + 1, none⟩ = some (.string (BA o.name)) ∧ w.cell? ⟨g, q + k * 5 + 2, none⟩ = some (.string (BA o.value)) ∧ w.cell? ⟨g, q + k * 5 + 3, none⟩ = some (.int .i64 o.n) ∧ w.cell? ⟨g, q + k * 5 + 4, none⟩ = some u ∧ AIn w u o.args := by
  obtain ⟨ad', cap', e, _, h4 | ⟨g, q, h4, h5, h6⟩⟩ := h
  · rw [h4] at ho
    simp at ho
  · injection e with e1
    obtain ⟨a0, a1, a2, a3, u, a4, a5⟩ := h6 k o ho
    exact ⟨g, q, u, by rw [e1]; exact h4, h5, a0, a1, a2, a3, a4, a5⟩

end Go.Proofs.YtbcbnoeplapblaaGreatDoor

/-
  Package vars: names, what may be turned, Get, the status.
-/
import Derived.Test.YtbcbnoeplapblaaGreatDoorVMem
import Derived.Deep.QuietTactic
import Derived.BigQuiet
import Derived.Deep.RegionHeld3
namespace Go.Proofs.YtbcbnoeplapblaaGreatDoor
open Go.RowKit Go.Maps

theorem emp_BA (l : List UInt8) : (BA l).toList.isEmpty = l.isEmpty := by
  rw [ByteArray.toList_eq]
  rfl
set_option maxRecDepth 20000 in
set_option maxHeartbeats 1000000 in
theorem name_any (l : List UInt8) (w : World) (hl : l.length ≤ 100000) :
    Calls Tryz.prog 41 #[.string (BA l)] w fun e w' => e = .returned (.bool (namL l)) ∧ w' = w := by
  have he := emp_BA l
  have HF := hide (front_any (BA l) w (by rw [BA_size]; exact hl))
  rw [BA_list] at HF
  cases hb : l.isEmpty with
  | true =>
    rw [hb] at he
    clear HF
    go_enter Tryz.func41, Tryz.ntmps41
    go_wp2
    go_ret
    exact ⟨ret_bool (by unfold namL; rw [hb]; rfl), rfl⟩
  | false =>
    rw [hb] at he
    obtain ⟨f, hf⟩ : ∃ f, f = frontN l := ⟨_, rfl⟩
    rw [← hf] at HF
    have HFF := hide hf
    have HBB := hide hb
    clear hf hb
    have hfl : f ≤ 100000 := by rw [unhide HFF]; have := front_le l; omega
    go_enter Tryz.func41, Tryz.ntmps41
    go_wp2_with fail
    refine (unhide HF).mono ?_
    rintro e w1 ⟨rfl, rfl⟩
    go_wp2
    go_ret
    refine ⟨ret_bool ?_, rfl⟩
    unfold namL
    rw [unhide HBB, ← unhide HFF]
    by_cases h : f = l.length
    · simp [h]
    · have : (f == l.length) = false := by simpa using h
      rw [this]
      simp
      omega
def mayN (n : List UInt8) : Int := if namL n = false then 16 else 0
set_option maxRecDepth 20000 in
set_option maxHeartbeats 1000000 in
theorem mayName_any (b : Nat) (n : List UInt8) (w : World) (hn : n.length ≤ 100000) :
    Calls Tryz.prog 45 #[.pointer (some ⟨b, 0, none⟩), .string (BA n)] w fun e w' => e = .returned (.int .i64 (mayN n)) ∧ w' = w := by
  have HN := hide (name_any n w hn)
  unfold mayN
  obtain ⟨q, hq⟩ : ∃ q, q = namL n := ⟨_, rfl⟩
  rw [← hq] at HN ⊢
  clear hq
  cases q with
  | true =>
    go_enter Tryz.func45, Tryz.ntmps45
    go_wp2_with fail
    refine (unhide HN).mono ?_
    rintro e w1 ⟨rfl, rfl⟩
    go_wp2
    go_ret
    exact ⟨rfl, rfl⟩
  | false =>
    go_enter Tryz.func45, Tryz.ntmps45
    go_wp2_with fail
    refine (unhide HN).mono ?_
    rintro e w1 ⟨rfl, rfl⟩
    go_wp2
    go_ret
    exact ⟨rfl, rfl⟩
set_option maxRecDepth 20000 in
set_option maxHeartbeats 1000000 in
theorem mayName_nil (n : List UInt8) (w : World) :
    Calls Tryz.prog 45 #[.pointer none, .string (BA n)] w fun e w' => e = .returned (.int .i64 2) ∧ w' = w := by
  go_enter Tryz.func45, Tryz.ntmps45
  go_wp2
  go_ret
  exact ⟨rfl, rfl⟩
def mayT (s : VSt) (n : List UInt8) : Int := if namL n = false then 16 else if (getL s.L n).ro then 15 else 0
set_option maxRecDepth 20000 in
set_option maxHeartbeats 1000000 in
theorem mayTurn_any (b : Nat) (X : Nat → Prop) (s : VSt) (n : List UInt8) (w : World) (h : VAt w b X s) (hn : n.length ≤ 100000) :
    Calls Tryz.prog 43 #[.pointer (some ⟨b, 0, none⟩), .string (BA n)] w fun e w' => e = .returned (.int .i64 (mayT s n)) ∧ w' = w := by
  have HN := hide (mayName_any b n w hn)
  obtain ⟨v, m, hb, _, hm, _⟩ := h
  have hl := hm.look n (by unfold maxLen; omega)
  obtain ⟨⟨xn, xv, xs, xe, xr⟩, hx⟩ : ∃ x, x = getL s.L n := ⟨_, rfl⟩
  rw [← hx] at hl
  have hro : (getL s.L n).ro = xr := by rw [← hx]
  have c2 : w.cell? ⟨b, 2, none⟩ = some (.map m) := hb.cell 2 rfl
  have hfd : (Instr.field 61 (.agg #[.string (BA xn), .string (BA xv), .bool xs, .bool xe, .bool xr]) 4).run Tryz.prog w = .ok (.bool xr) w := by kernel_rfl
  unfold mayT
  rw [hro]
  unfold Vr.val at hl
  simp only at hl
  clear hb hm hx hro
  cases hq : namL n with
  | false =>
    rw [show mayN n = 16 by unfold mayN; rw [hq]; rfl] at HN
    clear hq
    go_enter Tryz.func43, Tryz.ntmps43
    go_wp2_with fail
    refine (unhide HN).mono ?_
    rintro e w1 ⟨rfl, rfl⟩
    go_wp2
    go_ret
    exact ⟨rfl, rfl⟩
  | true =>
    rw [show mayN n = 0 by unfold mayN; rw [hq]; rfl] at HN
    clear hq
    cases xr with
    | true =>
      go_enter Tryz.func43, Tryz.ntmps43
      go_wp2_with fail
      refine (unhide HN).mono ?_
      rintro e w1 ⟨rfl, rfl⟩
      go_wp2
      go_ret
      exact ⟨rfl, rfl⟩
    | false =>
      go_enter Tryz.func43, Tryz.ntmps43
      go_wp2_with fail
      refine (unhide HN).mono ?_
      rintro e w1 ⟨rfl, rfl⟩
      go_wp2
      go_ret
      exact ⟨rfl, rfl⟩
set_option maxRecDepth 20000 in
set_option maxHeartbeats 1000000 in
theorem mayTurn_nil (n : List UInt8) (w : World) :
    Calls Tryz.prog 43 #[.pointer none, .string (BA n)] w fun e w' => e = .returned (.int .i64 2) ∧ w' = w := by
  go_enter Tryz.func43, Tryz.ntmps43
  go_wp2_with fail
  refine (mayName_nil n w).mono ?_
  rintro e w1 ⟨rfl, rfl⟩
  go_wp2
  go_ret
  exact ⟨rfl, rfl⟩
set_option maxRecDepth 20000 in
set_option maxHeartbeats 1000000 in
theorem get_any (b : Nat) (X : Nat → Prop) (s : VSt) (n : List UInt8) (w : World) (h : VAt w b X s) (hn : n.length ≤ 100000) :
    Calls Tryz.prog 10 #[.pointer (some ⟨b, 0, none⟩), .string (BA n)] w fun e w' => e = .returned (.tuple #[.string (BA (getL s.L n).value), .bool (getL s.L n).set]) ∧ Below w.heap.size w w' := by
  obtain ⟨v, m, hb, _, hm, _⟩ := h
  have hl := hm.look n (by unfold maxLen; omega)
  obtain ⟨⟨xn, xv, xs, xe, xr⟩, hx⟩ : ∃ x, x = getL s.L n := ⟨_, rfl⟩
  rw [← hx] at hl ⊢
  have c2 : w.cell? ⟨b, 2, none⟩ = some (.map m) := hb.cell 2 rfl
  unfold Vr.val at hl
  simp only at hl ⊢
  clear hb hm hx
  go_enter Tryz.func10, Tryz.ntmps10
  go_wp2_with fail
  go_quiet (fail)
  go_wp2_with fail
  go_ret2
  exact ⟨rfl, ((Below.refl _ w).alloc (Nat.le_refl _) _).trans ((below_drew _ _).mono (by simp))⟩
set_option maxRecDepth 20000 in
set_option maxHeartbeats 1000000 in
theorem get_nil (n : List UInt8) (w : World) :
    Calls Tryz.prog 10 #[.pointer none, .string (BA n)] w fun e w' => e = .returned (.tuple #[.string ⟨#[]⟩, .bool false]) ∧ w' = w := by
  go_enter Tryz.func10, Tryz.ntmps10
  go_wp2
  go_ret2
  exact ⟨rfl, rfl⟩
set_option maxRecDepth 20000 in
set_option maxHeartbeats 1000000 in
theorem status_any (b : Nat) (X : Nat → Prop) (s : VSt) (w : World) (h : VAt w b X s) :
    Calls Tryz.prog 12 #[.pointer (some ⟨b, 0, none⟩)] w fun e w' => e = .returned (.int .i64 s.st) ∧ w' = w := by
  obtain ⟨v, m, hb, _⟩ := h
  have c3 : w.cell? ⟨b, 3, none⟩ = some (.int .i64 s.st) := hb.cell 3 rfl
  clear hb
  go_enter Tryz.func12, Tryz.ntmps12
  go_wp2
  go_ret
  exact ⟨rfl, rfl⟩
set_option maxRecDepth 20000 in
set_option maxHeartbeats 1000000 in
theorem status_nil (w : World) : Calls Tryz.prog 12 #[.pointer none] w fun e w' => e = .returned (.int .i64 0) ∧ w' = w := by
  go_enter Tryz.func12, Tryz.ntmps12
  go_wp2
  go_ret
  exact ⟨rfl, rfl⟩
set_option maxRecDepth 20000 in
set_option maxHeartbeats 1000000 in
theorem setStatus_any (b : Nat) (X : Nat → Prop) (s : VSt) (n : Int) (w : World) (h : VAt w b X s) :
    Calls Tryz.prog 29 #[.pointer (some ⟨b, 0, none⟩), .int .i64 n] w fun e w' => e = .returned (.tuple #[]) ∧ VAt w' b X { s with st := n } ∧ GrownS w w' X := by
  obtain ⟨v, m, hb, ha, hm, x1, x2, x3⟩ := h
  have c3 : w.cell? ⟨b, 3, none⟩ = some (.int .i64 s.st) := hb.cell 3 rfl
  have f3 : w.frozen? ⟨b, 3, none⟩ = false := hb.frozen 3
  have HG : Hid (GrownS w (w.setCell ⟨b, 3, none⟩ (.int .i64 n)) (fun k => k = b)) := hide (GrownS.of (grown_setCell w _ _) (fun k e => by simpa using e))
  have HE : Hid (VAt (w.setCell ⟨b, 3, none⟩ (.int .i64 n)) b X { s with st := n }) := hide ⟨v, m, hb.set 3 _, ha.grown (unhide HG) (fun k hk e => blk_row hb ha (by rw [hk, e])), hm.grown (unhide HG) (fun k hk e => blk_map hb hm (by rw [hk, e])), x1, x2, x3⟩
  have HX := hide x1
  clear hb ha hm x1 x2 x3
  go_enter Tryz.func29, Tryz.ntmps29
  go_wp2
  refine bodyPost_end (res0 rfl _ _) rfl ⟨rfl, unhide HE, (unhide HG).mono (fun k _ e => by rw [e]; exact unhide HX)⟩
set_option maxRecDepth 20000 in
set_option maxHeartbeats 1000000 in
theorem setStatus_nil (n : Int) (w : World) : Calls Tryz.prog 29 #[.pointer none, .int .i64 n] w fun e w' => e = .returned (.tuple #[]) ∧ w' = w := by
  go_enter Tryz.func29, Tryz.ntmps29
  go_wp2
  refine bodyPost_end (res0 rfl _ _) rfl ⟨rfl, rfl⟩

end Go.Proofs.YtbcbnoeplapblaaGreatDoor

/-
  Package word's page: brace, of an Op that has a Word (plain).
-/
import Derived.Test.YtnamfjbfcbamjaaGreatDoorP23
namespace Go.Proofs.YtnamfjbfcbamjaaGreatDoor
open Go.RowKit
set_option maxRecDepth 20000 in
set_option maxHeartbeats 8000000 in
theorem pbrace_pdf {N : Nat} (HW : WdN N) (L : Nat) (mk : List UInt8) (dk : Nat) (hdk : dk < 4) (kd : Int) (t : List UInt8) (q : Bool) (op : Int) (h2 : 2 ≤ op) (h9 : op ≤ 9) (v : Value) (s : List Prt) (A : Nat → Prop) (w : World) (b : Nat) (X : Nat → Prop) (full : List UInt8)
    (hI : ∀ W, Calls Tryz.prog 35 #[.agg #[.int .i64 kd, .string (BA t), .bool q, .int .i64 op, .bool false, v]] W fun e w' => e = .returned (.agg (penC dk)) ∧ Below W.heap.size W w')
    (he : WEnv w) (hb3 : 3 ≤ b) (h : PgC w b X full) (hv : WAt w A v s) (hA : ∀ j, A j → j < w.heap.size ∧ ¬ X j) (hN : SizeOf.sizeOf s ≤ N) (hl : (full ++ dolOf 2 t op false (wrdT dk s)).length ≤ 10000) :
    Calls Tryz.prog 81 #[.pointer (some ⟨b, 0, none⟩), .agg #[.int .i64 kd, .string (BA t), .bool q, .int .i64 op, .bool false, v], .agg #[.func (Fn.func L) #[] #[], .string (BA mk), .func (Fn.func 35) #[] #[]]] w fun e w' => e = .returned (.tuple #[]) ∧ Wrote w b X (full ++ dolOf 2 t op false (wrdT dk s)) w' := by
  have HEQ : Hid (dolOf 2 t op false (wrdT dk s) = [36, 123] ++ t ++ opT op ++ wrdT dk s ++ [125]) := hide (by rw [dolOf_deep _ _ _ _ h2 h9]; simp)
  rw [unhide HEQ] at hl
  have hfl : full.length ≤ 10000 := by simp at hl; omega
  have htl : t.length ≤ 10000 := by simp at hl; omega
  have hwl : (wrdT dk s).length ≤ 10000 := by simp at hl; omega
  have hol := opT_len op
  have HS0 := hide (Sd.two h hb3 #[.int .i64 kd, .string (BA t), .bool q, .int .i64 op, .bool false, v] #[.func (Fn.func L) #[] #[], .string (BA mk), .func (Fn.func 35) #[] #[]])
  have HE := hide he
  have HWI := hide hI
  have HWC : Hid (∀ wq, Sd w b X 2 (K2 w.heap.size #[.int .i64 kd, .string (BA t), .bool q, .int .i64 op, .bool false, v] #[.func (Fn.func L) #[] #[], .string (BA mk), .func (Fn.func 35) #[] #[]]) (full ++ [36, 123] ++ t ++ opT op) wq → Calls Tryz.prog 32 #[.pointer (some ⟨b, 0, none⟩), v, .agg (penC dk)] wq fun e w' => e = .returned (.tuple #[]) ∧ Sd w b X 2 (K2 w.heap.size #[.int .i64 kd, .string (BA t), .bool q, .int .i64 op, .bool false, v] #[.func (Fn.func L) #[] #[], .string (BA mk), .func (Fn.func 35) #[] #[]]) (full ++ [36, 123] ++ t ++ opT op ++ wrdT dk s) w') := hide (fun wq hq => hq.word HW hb3 he hv hA dk hdk hN (by simp at hl ⊢; omega))
  have hlt : ¬ op < 0 := by omega
  have hgt : ¬ 9 < op := by omega
  have hn1 : (op == 1) = false := by rw [beq_eq_false_iff_ne]; omega
  clear h hv hl hI he h9 hA
  go_enter Tryz.func81, Tryz.ntmps81
  go_wp2_with fail
  refine ((unhide HS0).put [36, 123] (by first | rfl | simp) (by simp; omega)).mono ?_
  rintro e w1 ⟨rfl, a1⟩
  have HS1 := hide a1
  clear a1
  have p0 : w1.cell? ⟨w.heap.size, 0, none⟩ = some (.int .i64 kd) := (unhide HS1).part.cell 0 rfl
  have p1 : w1.cell? ⟨w.heap.size, 1, none⟩ = some (.string (BA t)) := (unhide HS1).part.cell 1 rfl
  have p2 : w1.cell? ⟨w.heap.size, 2, none⟩ = some (.bool q) := (unhide HS1).part.cell 2 rfl
  have p3 : w1.cell? ⟨w.heap.size, 3, none⟩ = some (.int .i64 op) := (unhide HS1).part.cell 3 rfl
  have p4 : w1.cell? ⟨w.heap.size, 4, none⟩ = some (.bool false) := (unhide HS1).part.cell 4 rfl
  have p5 : w1.cell? ⟨w.heap.size, 5, none⟩ = some v := (unhide HS1).part.cell 5 rfl
  have n0 : w1.cell? ⟨w.heap.size + 1, 0, none⟩ = some (.func (Fn.func L) #[] #[]) := (unhide HS1).pen.cell 0 rfl
  have n1 : w1.cell? ⟨w.heap.size + 1, 1, none⟩ = some (.string (BA mk)) := (unhide HS1).pen.cell 1 rfl
  have n2 : w1.cell? ⟨w.heap.size + 1, 2, none⟩ = some (.func (Fn.func 35) #[] #[]) := (unhide HS1).pen.cell 2 rfl
  go_wp2_with fail
  refine ((unhide HS1).put t (by first | rfl | simp) (by simp; omega)).mono ?_
  rintro e w2 ⟨rfl, a2⟩
  have HS2 := hide a2
  clear a2
  clear p0 p1 p2 p3 p4 p5 n0 n1 n2
  have p0 : w2.cell? ⟨w.heap.size, 0, none⟩ = some (.int .i64 kd) := (unhide HS2).part.cell 0 rfl
  have p1 : w2.cell? ⟨w.heap.size, 1, none⟩ = some (.string (BA t)) := (unhide HS2).part.cell 1 rfl
  have p2 : w2.cell? ⟨w.heap.size, 2, none⟩ = some (.bool q) := (unhide HS2).part.cell 2 rfl
  have p3 : w2.cell? ⟨w.heap.size, 3, none⟩ = some (.int .i64 op) := (unhide HS2).part.cell 3 rfl
  have p4 : w2.cell? ⟨w.heap.size, 4, none⟩ = some (.bool false) := (unhide HS2).part.cell 4 rfl
  have p5 : w2.cell? ⟨w.heap.size, 5, none⟩ = some v := (unhide HS2).part.cell 5 rfl
  have n0 : w2.cell? ⟨w.heap.size + 1, 0, none⟩ = some (.func (Fn.func L) #[] #[]) := (unhide HS2).pen.cell 0 rfl
  have n1 : w2.cell? ⟨w.heap.size + 1, 1, none⟩ = some (.string (BA mk)) := (unhide HS2).pen.cell 1 rfl
  have n2 : w2.cell? ⟨w.heap.size + 1, 2, none⟩ = some (.func (Fn.func 35) #[] #[]) := (unhide HS2).pen.cell 2 rfl
  go_wp2_with fail
  refine (sign_any op _ ((unhide HS2).env (unhide HE))).mono ?_
  rintro e ws ⟨rfl, bs⟩
  have HSS := hide ((unhide HS2).below bs)
  clear p0 p1 p2 p3 p4 p5 n0 n1 n2
  clear bs
  have p0 : ws.cell? ⟨w.heap.size, 0, none⟩ = some (.int .i64 kd) := (unhide HSS).part.cell 0 rfl
  have p1 : ws.cell? ⟨w.heap.size, 1, none⟩ = some (.string (BA t)) := (unhide HSS).part.cell 1 rfl
  have p2 : ws.cell? ⟨w.heap.size, 2, none⟩ = some (.bool q) := (unhide HSS).part.cell 2 rfl
  have p3 : ws.cell? ⟨w.heap.size, 3, none⟩ = some (.int .i64 op) := (unhide HSS).part.cell 3 rfl
  have p4 : ws.cell? ⟨w.heap.size, 4, none⟩ = some (.bool false) := (unhide HSS).part.cell 4 rfl
  have p5 : ws.cell? ⟨w.heap.size, 5, none⟩ = some v := (unhide HSS).part.cell 5 rfl
  have n0 : ws.cell? ⟨w.heap.size + 1, 0, none⟩ = some (.func (Fn.func L) #[] #[]) := (unhide HSS).pen.cell 0 rfl
  have n1 : ws.cell? ⟨w.heap.size + 1, 1, none⟩ = some (.string (BA mk)) := (unhide HSS).pen.cell 1 rfl
  have n2 : ws.cell? ⟨w.heap.size + 1, 2, none⟩ = some (.func (Fn.func 35) #[] #[]) := (unhide HSS).pen.cell 2 rfl
  go_wp2_with fail
  refine ((unhide HSS).put (opT op) (by first | rfl | simp) (by simp; omega)).mono ?_
  rintro e w3 ⟨rfl, a3⟩
  have HS3 := hide a3
  clear a3
  clear p0 p1 p2 p3 p4 p5 n0 n1 n2
  have p0 : w3.cell? ⟨w.heap.size, 0, none⟩ = some (.int .i64 kd) := (unhide HS3).part.cell 0 rfl
  have p1 : w3.cell? ⟨w.heap.size, 1, none⟩ = some (.string (BA t)) := (unhide HS3).part.cell 1 rfl
  have p2 : w3.cell? ⟨w.heap.size, 2, none⟩ = some (.bool q) := (unhide HS3).part.cell 2 rfl
  have p3 : w3.cell? ⟨w.heap.size, 3, none⟩ = some (.int .i64 op) := (unhide HS3).part.cell 3 rfl
  have p4 : w3.cell? ⟨w.heap.size, 4, none⟩ = some (.bool false) := (unhide HS3).part.cell 4 rfl
  have p5 : w3.cell? ⟨w.heap.size, 5, none⟩ = some v := (unhide HS3).part.cell 5 rfl
  have n0 : w3.cell? ⟨w.heap.size + 1, 0, none⟩ = some (.func (Fn.func L) #[] #[]) := (unhide HS3).pen.cell 0 rfl
  have n1 : w3.cell? ⟨w.heap.size + 1, 1, none⟩ = some (.string (BA mk)) := (unhide HS3).pen.cell 1 rfl
  have n2 : w3.cell? ⟨w.heap.size + 1, 2, none⟩ = some (.func (Fn.func 35) #[] #[]) := (unhide HS3).pen.cell 2 rfl
  go_wp2_with fail
  go_region_with (first
    | (go_at_call 35; refine (unhide HWI _).mono ?_; rintro e wq ⟨rfl, bq⟩; have HSQ := hide (((unhide HS3).below (below_drew _ _)).below bq); have q5 : wq.cell? ⟨w.heap.size, 5, none⟩ = some v := (unhide HSQ).part.cell 5 rfl)
    | (go_at_call 32; refine (unhide HWC _ (by first | exact unhide HSQ | exact (unhide HSQ).below (below_drew _ _))).mono ?_; rintro e w9 ⟨rfl, a9⟩))
  all_goals
    have HS9 := hide a9
    clear a9
    go_wp2_with fail
    refine ((unhide HS9).put [125] (by first | rfl | simp) (by simp; omega)).mono ?_
    rintro e wz ⟨rfl, az⟩
    have HZ := hide az.wrote
    clear az
    go_wp2
    refine bodyPost_end (res0 rfl _ _) rfl ?_
    refine ⟨rfl, ?_⟩
    rw [unhide HEQ]
    simpa only [List.append_assoc] using unhide HZ
set_option maxRecDepth 20000 in
set_option maxHeartbeats 8000000 in
theorem pbrace_pdt {N : Nat} (HW : WdN N) (L : Nat) (mk : List UInt8) (dk : Nat) (hdk : dk < 4) (kd : Int) (t : List UInt8) (q : Bool) (op : Int) (h2 : 2 ≤ op) (h9 : op ≤ 9) (v : Value) (s : List Prt) (A : Nat → Prop) (w : World) (b : Nat) (X : Nat → Prop) (full : List UInt8)
    (hI : ∀ W, Calls Tryz.prog 35 #[.agg #[.int .i64 kd, .string (BA t), .bool q, .int .i64 op, .bool true, v]] W fun e w' => e = .returned (.agg (penC dk)) ∧ Below W.heap.size W w')
    (he : WEnv w) (hb3 : 3 ≤ b) (h : PgC w b X full) (hv : WAt w A v s) (hA : ∀ j, A j → j < w.heap.size ∧ ¬ X j) (hN : SizeOf.sizeOf s ≤ N) (hl : (full ++ dolOf 2 t op true (wrdT dk s)).length ≤ 10000) :
    Calls Tryz.prog 81 #[.pointer (some ⟨b, 0, none⟩), .agg #[.int .i64 kd, .string (BA t), .bool q, .int .i64 op, .bool true, v], .agg #[.func (Fn.func L) #[] #[], .string (BA mk), .func (Fn.func 35) #[] #[]]] w fun e w' => e = .returned (.tuple #[]) ∧ Wrote w b X (full ++ dolOf 2 t op true (wrdT dk s)) w' := by
  have HEQ : Hid (dolOf 2 t op true (wrdT dk s) = [36, 123] ++ t ++ [58] ++ opT op ++ wrdT dk s ++ [125]) := hide (by rw [dolOf_deep _ _ _ _ h2 h9]; simp)
  rw [unhide HEQ] at hl
  have hfl : full.length ≤ 10000 := by simp at hl; omega
  have htl : t.length ≤ 10000 := by simp at hl; omega
  have hwl : (wrdT dk s).length ≤ 10000 := by simp at hl; omega
  have hol := opT_len op
  have HS0 := hide (Sd.two h hb3 #[.int .i64 kd, .string (BA t), .bool q, .int .i64 op, .bool true, v] #[.func (Fn.func L) #[] #[], .string (BA mk), .func (Fn.func 35) #[] #[]])
  have HE := hide he
  have HWI := hide hI
  have HWC : Hid (∀ wq, Sd w b X 2 (K2 w.heap.size #[.int .i64 kd, .string (BA t), .bool q, .int .i64 op, .bool true, v] #[.func (Fn.func L) #[] #[], .string (BA mk), .func (Fn.func 35) #[] #[]]) (full ++ [36, 123] ++ t ++ [58] ++ opT op) wq → Calls Tryz.prog 32 #[.pointer (some ⟨b, 0, none⟩), v, .agg (penC dk)] wq fun e w' => e = .returned (.tuple #[]) ∧ Sd w b X 2 (K2 w.heap.size #[.int .i64 kd, .string (BA t), .bool q, .int .i64 op, .bool true, v] #[.func (Fn.func L) #[] #[], .string (BA mk), .func (Fn.func 35) #[] #[]]) (full ++ [36, 123] ++ t ++ [58] ++ opT op ++ wrdT dk s) w') := hide (fun wq hq => hq.word HW hb3 he hv hA dk hdk hN (by simp at hl ⊢; omega))
  have hlt : ¬ op < 0 := by omega
  have hgt : ¬ 9 < op := by omega
  have hn1 : (op == 1) = false := by rw [beq_eq_false_iff_ne]; omega
  clear h hv hl hI he h9 hA
  go_enter Tryz.func81, Tryz.ntmps81
  go_wp2_with fail
  refine ((unhide HS0).put [36, 123] (by first | rfl | simp) (by simp; omega)).mono ?_
  rintro e w1 ⟨rfl, a1⟩
  have HS1 := hide a1
  clear a1
  have p0 : w1.cell? ⟨w.heap.size, 0, none⟩ = some (.int .i64 kd) := (unhide HS1).part.cell 0 rfl
  have p1 : w1.cell? ⟨w.heap.size, 1, none⟩ = some (.string (BA t)) := (unhide HS1).part.cell 1 rfl
  have p2 : w1.cell? ⟨w.heap.size, 2, none⟩ = some (.bool q) := (unhide HS1).part.cell 2 rfl
  have p3 : w1.cell? ⟨w.heap.size, 3, none⟩ = some (.int .i64 op) := (unhide HS1).part.cell 3 rfl
  have p4 : w1.cell? ⟨w.heap.size, 4, none⟩ = some (.bool true) := (unhide HS1).part.cell 4 rfl
  have p5 : w1.cell? ⟨w.heap.size, 5, none⟩ = some v := (unhide HS1).part.cell 5 rfl
  have n0 : w1.cell? ⟨w.heap.size + 1, 0, none⟩ = some (.func (Fn.func L) #[] #[]) := (unhide HS1).pen.cell 0 rfl
  have n1 : w1.cell? ⟨w.heap.size + 1, 1, none⟩ = some (.string (BA mk)) := (unhide HS1).pen.cell 1 rfl
  have n2 : w1.cell? ⟨w.heap.size + 1, 2, none⟩ = some (.func (Fn.func 35) #[] #[]) := (unhide HS1).pen.cell 2 rfl
  go_wp2_with fail
  refine ((unhide HS1).put t (by first | rfl | simp) (by simp; omega)).mono ?_
  rintro e w2 ⟨rfl, a2⟩
  have HS2 := hide a2
  clear a2
  clear p0 p1 p2 p3 p4 p5 n0 n1 n2
  have p0 : w2.cell? ⟨w.heap.size, 0, none⟩ = some (.int .i64 kd) := (unhide HS2).part.cell 0 rfl
  have p1 : w2.cell? ⟨w.heap.size, 1, none⟩ = some (.string (BA t)) := (unhide HS2).part.cell 1 rfl
  have p2 : w2.cell? ⟨w.heap.size, 2, none⟩ = some (.bool q) := (unhide HS2).part.cell 2 rfl
  have p3 : w2.cell? ⟨w.heap.size, 3, none⟩ = some (.int .i64 op) := (unhide HS2).part.cell 3 rfl
  have p4 : w2.cell? ⟨w.heap.size, 4, none⟩ = some (.bool true) := (unhide HS2).part.cell 4 rfl
  have p5 : w2.cell? ⟨w.heap.size, 5, none⟩ = some v := (unhide HS2).part.cell 5 rfl
  have n0 : w2.cell? ⟨w.heap.size + 1, 0, none⟩ = some (.func (Fn.func L) #[] #[]) := (unhide HS2).pen.cell 0 rfl
  have n1 : w2.cell? ⟨w.heap.size + 1, 1, none⟩ = some (.string (BA mk)) := (unhide HS2).pen.cell 1 rfl
  have n2 : w2.cell? ⟨w.heap.size + 1, 2, none⟩ = some (.func (Fn.func 35) #[] #[]) := (unhide HS2).pen.cell 2 rfl
  go_wp2_with fail
  refine ((unhide HS2).put [58] (by first | rfl | simp) (by simp; omega)).mono ?_
  rintro e w3 ⟨rfl, a3⟩
  have HS3 := hide a3
  clear a3
  clear p0 p1 p2 p3 p4 p5 n0 n1 n2
  have p0 : w3.cell? ⟨w.heap.size, 0, none⟩ = some (.int .i64 kd) := (unhide HS3).part.cell 0 rfl
  have p1 : w3.cell? ⟨w.heap.size, 1, none⟩ = some (.string (BA t)) := (unhide HS3).part.cell 1 rfl
  have p2 : w3.cell? ⟨w.heap.size, 2, none⟩ = some (.bool q) := (unhide HS3).part.cell 2 rfl
  have p3 : w3.cell? ⟨w.heap.size, 3, none⟩ = some (.int .i64 op) := (unhide HS3).part.cell 3 rfl
  have p4 : w3.cell? ⟨w.heap.size, 4, none⟩ = some (.bool true) := (unhide HS3).part.cell 4 rfl
  have p5 : w3.cell? ⟨w.heap.size, 5, none⟩ = some v := (unhide HS3).part.cell 5 rfl
  have n0 : w3.cell? ⟨w.heap.size + 1, 0, none⟩ = some (.func (Fn.func L) #[] #[]) := (unhide HS3).pen.cell 0 rfl
  have n1 : w3.cell? ⟨w.heap.size + 1, 1, none⟩ = some (.string (BA mk)) := (unhide HS3).pen.cell 1 rfl
  have n2 : w3.cell? ⟨w.heap.size + 1, 2, none⟩ = some (.func (Fn.func 35) #[] #[]) := (unhide HS3).pen.cell 2 rfl
  go_wp2_with fail
  refine (sign_any op _ ((unhide HS3).env (unhide HE))).mono ?_
  rintro e ws ⟨rfl, bs⟩
  have HSS := hide ((unhide HS3).below bs)
  clear p0 p1 p2 p3 p4 p5 n0 n1 n2
  clear bs
  have p0 : ws.cell? ⟨w.heap.size, 0, none⟩ = some (.int .i64 kd) := (unhide HSS).part.cell 0 rfl
  have p1 : ws.cell? ⟨w.heap.size, 1, none⟩ = some (.string (BA t)) := (unhide HSS).part.cell 1 rfl
  have p2 : ws.cell? ⟨w.heap.size, 2, none⟩ = some (.bool q) := (unhide HSS).part.cell 2 rfl
  have p3 : ws.cell? ⟨w.heap.size, 3, none⟩ = some (.int .i64 op) := (unhide HSS).part.cell 3 rfl
  have p4 : ws.cell? ⟨w.heap.size, 4, none⟩ = some (.bool true) := (unhide HSS).part.cell 4 rfl
  have p5 : ws.cell? ⟨w.heap.size, 5, none⟩ = some v := (unhide HSS).part.cell 5 rfl
  have n0 : ws.cell? ⟨w.heap.size + 1, 0, none⟩ = some (.func (Fn.func L) #[] #[]) := (unhide HSS).pen.cell 0 rfl
  have n1 : ws.cell? ⟨w.heap.size + 1, 1, none⟩ = some (.string (BA mk)) := (unhide HSS).pen.cell 1 rfl
  have n2 : ws.cell? ⟨w.heap.size + 1, 2, none⟩ = some (.func (Fn.func 35) #[] #[]) := (unhide HSS).pen.cell 2 rfl
  go_wp2_with fail
  refine ((unhide HSS).put (opT op) (by first | rfl | simp) (by simp; omega)).mono ?_
  rintro e w4 ⟨rfl, a4⟩
  have HS4 := hide a4
  clear a4
  clear p0 p1 p2 p3 p4 p5 n0 n1 n2
  have p0 : w4.cell? ⟨w.heap.size, 0, none⟩ = some (.int .i64 kd) := (unhide HS4).part.cell 0 rfl
  have p1 : w4.cell? ⟨w.heap.size, 1, none⟩ = some (.string (BA t)) := (unhide HS4).part.cell 1 rfl
  have p2 : w4.cell? ⟨w.heap.size, 2, none⟩ = some (.bool q) := (unhide HS4).part.cell 2 rfl
  have p3 : w4.cell? ⟨w.heap.size, 3, none⟩ = some (.int .i64 op) := (unhide HS4).part.cell 3 rfl
  have p4 : w4.cell? ⟨w.heap.size, 4, none⟩ = some (.bool true) := (unhide HS4).part.cell 4 rfl
  have p5 : w4.cell? ⟨w.heap.size, 5, none⟩ = some v := (unhide HS4).part.cell 5 rfl
  have n0 : w4.cell? ⟨w.heap.size + 1, 0, none⟩ = some (.func (Fn.func L) #[] #[]) := (unhide HS4).pen.cell 0 rfl
  have n1 : w4.cell? ⟨w.heap.size + 1, 1, none⟩ = some (.string (BA mk)) := (unhide HS4).pen.cell 1 rfl
  have n2 : w4.cell? ⟨w.heap.size + 1, 2, none⟩ = some (.func (Fn.func 35) #[] #[]) := (unhide HS4).pen.cell 2 rfl
  go_wp2_with fail
  go_region_with (first
    | (go_at_call 35; refine (unhide HWI _).mono ?_; rintro e wq ⟨rfl, bq⟩; have HSQ := hide (((unhide HS4).below (below_drew _ _)).below bq); have q5 : wq.cell? ⟨w.heap.size, 5, none⟩ = some v := (unhide HSQ).part.cell 5 rfl)
    | (go_at_call 32; refine (unhide HWC _ (by first | exact unhide HSQ | exact (unhide HSQ).below (below_drew _ _))).mono ?_; rintro e w9 ⟨rfl, a9⟩))
  all_goals
    have HS9 := hide a9
    clear a9
    go_wp2_with fail
    refine ((unhide HS9).put [125] (by first | rfl | simp) (by simp; omega)).mono ?_
    rintro e wz ⟨rfl, az⟩
    have HZ := hide az.wrote
    clear az
    go_wp2
    refine bodyPost_end (res0 rfl _ _) rfl ?_
    refine ⟨rfl, ?_⟩
    rw [unhide HEQ]
    simpa only [List.append_assoc] using unhide HZ
end Go.Proofs.YtnamfjbfcbamjaaGreatDoor

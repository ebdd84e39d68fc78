/-
  Package word's page: brace.
-/
import Derived.Test.YtnamfjbfcbamjaaGreatDoorP22
namespace Go.Proofs.YtnamfjbfcbamjaaGreatDoor
open Go.RowKit
theorem dolOf_low (t : List UInt8) (op : Int) (c : Bool) (s : List UInt8) (h : op < 0 ∨ 9 < op) : dolOf 2 t op c s = [] := by
  unfold dolOf
  rw [if_pos rfl, if_pos h]
theorem dolOf_deep (t : List UInt8) (op : Int) (c : Bool) (s : List UInt8) (h2 : 2 ≤ op) (h9 : op ≤ 9) : dolOf 2 t op c s = [36, 123] ++ t ++ (if c then [58] else []) ++ opT op ++ s ++ [125] := by
  unfold dolOf
  rw [if_pos rfl, if_neg (by omega), if_neg (by omega), if_pos h2]
  simp
set_option maxRecDepth 20000 in
set_option maxHeartbeats 8000000 in
theorem pbrace_lo (L I : Nat) (mk : List UInt8) (dk : Nat) (kd : Int) (t : List UInt8) (q : Bool) (op : Int) (c : Bool) (hlo : op < 0) (v : Value) (s : List Prt) (w : World) (b : Nat) (X : Nat → Prop) (full : List UInt8)
    (hb3 : 3 ≤ b) (h : PgC w b X full) :
    Calls Tryz.prog 81 #[.pointer (some ⟨b, 0, none⟩), .agg #[.int .i64 kd, .string (BA t), .bool q, .int .i64 op, .bool c, v], .agg #[.func (Fn.func L) #[] #[], .string (BA mk), .func (Fn.func I) #[] #[]]] w fun e w' => e = .returned (.tuple #[]) ∧ Wrote w b X (full ++ dolOf 2 t op c (wrdT dk s)) w' := by
  rw [dolOf_low _ _ _ _ (.inl hlo)]
  have HS0 := hide (Sd.two h hb3 #[.int .i64 kd, .string (BA t), .bool q, .int .i64 op, .bool c, v] #[.func (Fn.func L) #[] #[], .string (BA mk), .func (Fn.func I) #[] #[]])
  clear h
  go_enter Tryz.func81, Tryz.ntmps81
  go_wp2
  refine bodyPost_ret (res0 rfl _ _) rfl ?_
  refine ⟨rfl, ?_⟩
  simpa using (unhide HS0).wrote
set_option maxRecDepth 20000 in
set_option maxHeartbeats 8000000 in
theorem pbrace_hi (L I : Nat) (mk : List UInt8) (dk : Nat) (kd : Int) (t : List UInt8) (q : Bool) (op : Int) (c : Bool) (hhi : 9 < op) (v : Value) (s : List Prt) (w : World) (b : Nat) (X : Nat → Prop) (full : List UInt8)
    (hb3 : 3 ≤ b) (h : PgC w b X full) :
    Calls Tryz.prog 81 #[.pointer (some ⟨b, 0, none⟩), .agg #[.int .i64 kd, .string (BA t), .bool q, .int .i64 op, .bool c, v], .agg #[.func (Fn.func L) #[] #[], .string (BA mk), .func (Fn.func I) #[] #[]]] w fun e w' => e = .returned (.tuple #[]) ∧ Wrote w b X (full ++ dolOf 2 t op c (wrdT dk s)) w' := by
  rw [dolOf_low _ _ _ _ (.inr hhi)]
  have HS0 := hide (Sd.two h hb3 #[.int .i64 kd, .string (BA t), .bool q, .int .i64 op, .bool c, v] #[.func (Fn.func L) #[] #[], .string (BA mk), .func (Fn.func I) #[] #[]])
  clear h
  have hge : ¬ op < 0 := by omega
  go_enter Tryz.func81, Tryz.ntmps81
  go_wp2
  refine bodyPost_ret (res0 rfl _ _) rfl ?_
  refine ⟨rfl, ?_⟩
  simpa using (unhide HS0).wrote
set_option maxRecDepth 20000 in
set_option maxHeartbeats 8000000 in
theorem pbrace_0f (L I : Nat) (mk : List UInt8) (dk : Nat) (kd : Int) (t : List UInt8) (q : Bool) (v : Value) (s : List Prt) (w : World) (b : Nat) (X : Nat → Prop) (full : List UInt8)
    (he : WEnv w) (hb3 : 3 ≤ b) (h : PgC w b X full) (hl : (full ++ dolOf 2 t 0 false (wrdT dk s)).length ≤ 10000) :
    Calls Tryz.prog 81 #[.pointer (some ⟨b, 0, none⟩), .agg #[.int .i64 kd, .string (BA t), .bool q, .int .i64 0, .bool false, v], .agg #[.func (Fn.func L) #[] #[], .string (BA mk), .func (Fn.func I) #[] #[]]] w fun e w' => e = .returned (.tuple #[]) ∧ Wrote w b X (full ++ dolOf 2 t 0 false (wrdT dk s)) w' := by
  have HEQ : Hid (dolOf 2 t 0 false (wrdT dk s) = [36, 123] ++ t ++ opT 0 ++ [125]) := hide (by simp [dolOf])
  rw [unhide HEQ] at hl
  have hfl : full.length ≤ 10000 := by simp at hl; omega
  have htl : t.length ≤ 10000 := by simp at hl; omega
  have hol := opT_len 0
  have HS0 := hide (Sd.two h hb3 #[.int .i64 kd, .string (BA t), .bool q, .int .i64 0, .bool false, v] #[.func (Fn.func L) #[] #[], .string (BA mk), .func (Fn.func I) #[] #[]])
  have HE := hide he
  clear h hl he
  go_enter Tryz.func81, Tryz.ntmps81
  go_wp2_with fail
  refine ((unhide HS0).put [36, 123] (by first | rfl | simp) (by simp; omega)).mono ?_
  rintro e w1 ⟨rfl, a1⟩
  have HS1 := hide a1
  clear a1
  have p0 : w1.cell? ⟨w.heap.size, 0, none⟩ = some (.int .i64 kd) := (unhide HS1).part.cell 0 rfl
  have p1 : w1.cell? ⟨w.heap.size, 1, none⟩ = some (.string (BA t)) := (unhide HS1).part.cell 1 rfl
  have p2 : w1.cell? ⟨w.heap.size, 2, none⟩ = some (.bool q) := (unhide HS1).part.cell 2 rfl
  have p3 : w1.cell? ⟨w.heap.size, 3, none⟩ = some (.int .i64 0) := (unhide HS1).part.cell 3 rfl
  have p4 : w1.cell? ⟨w.heap.size, 4, none⟩ = some (.bool false) := (unhide HS1).part.cell 4 rfl
  have p5 : w1.cell? ⟨w.heap.size, 5, none⟩ = some v := (unhide HS1).part.cell 5 rfl
  have n0 : w1.cell? ⟨w.heap.size + 1, 0, none⟩ = some (.func (Fn.func L) #[] #[]) := (unhide HS1).pen.cell 0 rfl
  have n1 : w1.cell? ⟨w.heap.size + 1, 1, none⟩ = some (.string (BA mk)) := (unhide HS1).pen.cell 1 rfl
  have n2 : w1.cell? ⟨w.heap.size + 1, 2, none⟩ = some (.func (Fn.func I) #[] #[]) := (unhide HS1).pen.cell 2 rfl
  go_wp2_with fail
  refine ((unhide HS1).put t (by first | rfl | simp) (by simp; omega)).mono ?_
  rintro e w2 ⟨rfl, a2⟩
  have HS2 := hide a2
  clear a2
  clear p0 p1 p2 p3 p4 p5 n0 n1 n2
  have p0 : w2.cell? ⟨w.heap.size, 0, none⟩ = some (.int .i64 kd) := (unhide HS2).part.cell 0 rfl
  have p1 : w2.cell? ⟨w.heap.size, 1, none⟩ = some (.string (BA t)) := (unhide HS2).part.cell 1 rfl
  have p2 : w2.cell? ⟨w.heap.size, 2, none⟩ = some (.bool q) := (unhide HS2).part.cell 2 rfl
  have p3 : w2.cell? ⟨w.heap.size, 3, none⟩ = some (.int .i64 0) := (unhide HS2).part.cell 3 rfl
  have p4 : w2.cell? ⟨w.heap.size, 4, none⟩ = some (.bool false) := (unhide HS2).part.cell 4 rfl
  have p5 : w2.cell? ⟨w.heap.size, 5, none⟩ = some v := (unhide HS2).part.cell 5 rfl
  have n0 : w2.cell? ⟨w.heap.size + 1, 0, none⟩ = some (.func (Fn.func L) #[] #[]) := (unhide HS2).pen.cell 0 rfl
  have n1 : w2.cell? ⟨w.heap.size + 1, 1, none⟩ = some (.string (BA mk)) := (unhide HS2).pen.cell 1 rfl
  have n2 : w2.cell? ⟨w.heap.size + 1, 2, none⟩ = some (.func (Fn.func I) #[] #[]) := (unhide HS2).pen.cell 2 rfl
  go_wp2_with fail
  refine (sign_any 0 _ ((unhide HS2).env (unhide HE))).mono ?_
  rintro e ws ⟨rfl, bs⟩
  have HSS := hide ((unhide HS2).below bs)
  clear p0 p1 p2 p3 p4 p5 n0 n1 n2
  clear bs
  have p0 : ws.cell? ⟨w.heap.size, 0, none⟩ = some (.int .i64 kd) := (unhide HSS).part.cell 0 rfl
  have p1 : ws.cell? ⟨w.heap.size, 1, none⟩ = some (.string (BA t)) := (unhide HSS).part.cell 1 rfl
  have p2 : ws.cell? ⟨w.heap.size, 2, none⟩ = some (.bool q) := (unhide HSS).part.cell 2 rfl
  have p3 : ws.cell? ⟨w.heap.size, 3, none⟩ = some (.int .i64 0) := (unhide HSS).part.cell 3 rfl
  have p4 : ws.cell? ⟨w.heap.size, 4, none⟩ = some (.bool false) := (unhide HSS).part.cell 4 rfl
  have p5 : ws.cell? ⟨w.heap.size, 5, none⟩ = some v := (unhide HSS).part.cell 5 rfl
  have n0 : ws.cell? ⟨w.heap.size + 1, 0, none⟩ = some (.func (Fn.func L) #[] #[]) := (unhide HSS).pen.cell 0 rfl
  have n1 : ws.cell? ⟨w.heap.size + 1, 1, none⟩ = some (.string (BA mk)) := (unhide HSS).pen.cell 1 rfl
  have n2 : ws.cell? ⟨w.heap.size + 1, 2, none⟩ = some (.func (Fn.func I) #[] #[]) := (unhide HSS).pen.cell 2 rfl
  go_wp2_with fail
  refine ((unhide HSS).put (opT 0) (by first | rfl | simp) (by simp; omega)).mono ?_
  rintro e w3 ⟨rfl, a3⟩
  have HS3 := hide a3
  clear a3
  clear p0 p1 p2 p3 p4 p5 n0 n1 n2
  have p0 : w3.cell? ⟨w.heap.size, 0, none⟩ = some (.int .i64 kd) := (unhide HS3).part.cell 0 rfl
  have p1 : w3.cell? ⟨w.heap.size, 1, none⟩ = some (.string (BA t)) := (unhide HS3).part.cell 1 rfl
  have p2 : w3.cell? ⟨w.heap.size, 2, none⟩ = some (.bool q) := (unhide HS3).part.cell 2 rfl
  have p3 : w3.cell? ⟨w.heap.size, 3, none⟩ = some (.int .i64 0) := (unhide HS3).part.cell 3 rfl
  have p4 : w3.cell? ⟨w.heap.size, 4, none⟩ = some (.bool false) := (unhide HS3).part.cell 4 rfl
  have p5 : w3.cell? ⟨w.heap.size, 5, none⟩ = some v := (unhide HS3).part.cell 5 rfl
  have n0 : w3.cell? ⟨w.heap.size + 1, 0, none⟩ = some (.func (Fn.func L) #[] #[]) := (unhide HS3).pen.cell 0 rfl
  have n1 : w3.cell? ⟨w.heap.size + 1, 1, none⟩ = some (.string (BA mk)) := (unhide HS3).pen.cell 1 rfl
  have n2 : w3.cell? ⟨w.heap.size + 1, 2, none⟩ = some (.func (Fn.func I) #[] #[]) := (unhide HS3).pen.cell 2 rfl
  go_wp2_with fail
  refine ((unhide HS3).put [125] (by first | rfl | simp) (by simp; omega)).mono ?_
  rintro e w4 ⟨rfl, a4⟩
  have HZ := hide a4.wrote
  clear a4
  go_wp2
  refine bodyPost_end (res0 rfl _ _) rfl ?_
  refine ⟨rfl, ?_⟩
  rw [unhide HEQ]
  simpa only [List.append_assoc] using unhide HZ
set_option maxRecDepth 20000 in
set_option maxHeartbeats 8000000 in
theorem pbrace_0t (L I : Nat) (mk : List UInt8) (dk : Nat) (kd : Int) (t : List UInt8) (q : Bool) (v : Value) (s : List Prt) (w : World) (b : Nat) (X : Nat → Prop) (full : List UInt8)
    (he : WEnv w) (hb3 : 3 ≤ b) (h : PgC w b X full) (hl : (full ++ dolOf 2 t 0 true (wrdT dk s)).length ≤ 10000) :
    Calls Tryz.prog 81 #[.pointer (some ⟨b, 0, none⟩), .agg #[.int .i64 kd, .string (BA t), .bool q, .int .i64 0, .bool true, v], .agg #[.func (Fn.func L) #[] #[], .string (BA mk), .func (Fn.func I) #[] #[]]] w fun e w' => e = .returned (.tuple #[]) ∧ Wrote w b X (full ++ dolOf 2 t 0 true (wrdT dk s)) w' := by
  have HEQ : Hid (dolOf 2 t 0 true (wrdT dk s) = [36, 123] ++ t ++ [58] ++ opT 0 ++ [125]) := hide (by simp [dolOf])
  rw [unhide HEQ] at hl
  have hfl : full.length ≤ 10000 := by simp at hl; omega
  have htl : t.length ≤ 10000 := by simp at hl; omega
  have hol := opT_len 0
  have HS0 := hide (Sd.two h hb3 #[.int .i64 kd, .string (BA t), .bool q, .int .i64 0, .bool true, v] #[.func (Fn.func L) #[] #[], .string (BA mk), .func (Fn.func I) #[] #[]])
  have HE := hide he
  clear h hl he
  go_enter Tryz.func81, Tryz.ntmps81
  go_wp2_with fail
  refine ((unhide HS0).put [36, 123] (by first | rfl | simp) (by simp; omega)).mono ?_
  rintro e w1 ⟨rfl, a1⟩
  have HS1 := hide a1
  clear a1
  have p0 : w1.cell? ⟨w.heap.size, 0, none⟩ = some (.int .i64 kd) := (unhide HS1).part.cell 0 rfl
  have p1 : w1.cell? ⟨w.heap.size, 1, none⟩ = some (.string (BA t)) := (unhide HS1).part.cell 1 rfl
  have p2 : w1.cell? ⟨w.heap.size, 2, none⟩ = some (.bool q) := (unhide HS1).part.cell 2 rfl
  have p3 : w1.cell? ⟨w.heap.size, 3, none⟩ = some (.int .i64 0) := (unhide HS1).part.cell 3 rfl
  have p4 : w1.cell? ⟨w.heap.size, 4, none⟩ = some (.bool true) := (unhide HS1).part.cell 4 rfl
  have p5 : w1.cell? ⟨w.heap.size, 5, none⟩ = some v := (unhide HS1).part.cell 5 rfl
  have n0 : w1.cell? ⟨w.heap.size + 1, 0, none⟩ = some (.func (Fn.func L) #[] #[]) := (unhide HS1).pen.cell 0 rfl
  have n1 : w1.cell? ⟨w.heap.size + 1, 1, none⟩ = some (.string (BA mk)) := (unhide HS1).pen.cell 1 rfl
  have n2 : w1.cell? ⟨w.heap.size + 1, 2, none⟩ = some (.func (Fn.func I) #[] #[]) := (unhide HS1).pen.cell 2 rfl
  go_wp2_with fail
  refine ((unhide HS1).put t (by first | rfl | simp) (by simp; omega)).mono ?_
  rintro e w2 ⟨rfl, a2⟩
  have HS2 := hide a2
  clear a2
  clear p0 p1 p2 p3 p4 p5 n0 n1 n2
  have p0 : w2.cell? ⟨w.heap.size, 0, none⟩ = some (.int .i64 kd) := (unhide HS2).part.cell 0 rfl
  have p1 : w2.cell? ⟨w.heap.size, 1, none⟩ = some (.string (BA t)) := (unhide HS2).part.cell 1 rfl
  have p2 : w2.cell? ⟨w.heap.size, 2, none⟩ = some (.bool q) := (unhide HS2).part.cell 2 rfl
  have p3 : w2.cell? ⟨w.heap.size, 3, none⟩ = some (.int .i64 0) := (unhide HS2).part.cell 3 rfl
  have p4 : w2.cell? ⟨w.heap.size, 4, none⟩ = some (.bool true) := (unhide HS2).part.cell 4 rfl
  have p5 : w2.cell? ⟨w.heap.size, 5, none⟩ = some v := (unhide HS2).part.cell 5 rfl
  have n0 : w2.cell? ⟨w.heap.size + 1, 0, none⟩ = some (.func (Fn.func L) #[] #[]) := (unhide HS2).pen.cell 0 rfl
  have n1 : w2.cell? ⟨w.heap.size + 1, 1, none⟩ = some (.string (BA mk)) := (unhide HS2).pen.cell 1 rfl
  have n2 : w2.cell? ⟨w.heap.size + 1, 2, none⟩ = some (.func (Fn.func I) #[] #[]) := (unhide HS2).pen.cell 2 rfl
  go_wp2_with fail
  refine ((unhide HS2).put [58] (by first | rfl | simp) (by simp; omega)).mono ?_
  rintro e w3 ⟨rfl, a3⟩
  have HS3 := hide a3
  clear a3
  clear p0 p1 p2 p3 p4 p5 n0 n1 n2
  have p0 : w3.cell? ⟨w.heap.size, 0, none⟩ = some (.int .i64 kd) := (unhide HS3).part.cell 0 rfl
  have p1 : w3.cell? ⟨w.heap.size, 1, none⟩ = some (.string (BA t)) := (unhide HS3).part.cell 1 rfl
  have p2 : w3.cell? ⟨w.heap.size, 2, none⟩ = some (.bool q) := (unhide HS3).part.cell 2 rfl
  have p3 : w3.cell? ⟨w.heap.size, 3, none⟩ = some (.int .i64 0) := (unhide HS3).part.cell 3 rfl
  have p4 : w3.cell? ⟨w.heap.size, 4, none⟩ = some (.bool true) := (unhide HS3).part.cell 4 rfl
  have p5 : w3.cell? ⟨w.heap.size, 5, none⟩ = some v := (unhide HS3).part.cell 5 rfl
  have n0 : w3.cell? ⟨w.heap.size + 1, 0, none⟩ = some (.func (Fn.func L) #[] #[]) := (unhide HS3).pen.cell 0 rfl
  have n1 : w3.cell? ⟨w.heap.size + 1, 1, none⟩ = some (.string (BA mk)) := (unhide HS3).pen.cell 1 rfl
  have n2 : w3.cell? ⟨w.heap.size + 1, 2, none⟩ = some (.func (Fn.func I) #[] #[]) := (unhide HS3).pen.cell 2 rfl
  go_wp2_with fail
  refine (sign_any 0 _ ((unhide HS3).env (unhide HE))).mono ?_
  rintro e ws ⟨rfl, bs⟩
  have HSS := hide ((unhide HS3).below bs)
  clear p0 p1 p2 p3 p4 p5 n0 n1 n2
  clear bs
  have p0 : ws.cell? ⟨w.heap.size, 0, none⟩ = some (.int .i64 kd) := (unhide HSS).part.cell 0 rfl
  have p1 : ws.cell? ⟨w.heap.size, 1, none⟩ = some (.string (BA t)) := (unhide HSS).part.cell 1 rfl
  have p2 : ws.cell? ⟨w.heap.size, 2, none⟩ = some (.bool q) := (unhide HSS).part.cell 2 rfl
  have p3 : ws.cell? ⟨w.heap.size, 3, none⟩ = some (.int .i64 0) := (unhide HSS).part.cell 3 rfl
  have p4 : ws.cell? ⟨w.heap.size, 4, none⟩ = some (.bool true) := (unhide HSS).part.cell 4 rfl
  have p5 : ws.cell? ⟨w.heap.size, 5, none⟩ = some v := (unhide HSS).part.cell 5 rfl
  have n0 : ws.cell? ⟨w.heap.size + 1, 0, none⟩ = some (.func (Fn.func L) #[] #[]) := (unhide HSS).pen.cell 0 rfl
  have n1 : ws.cell? ⟨w.heap.size + 1, 1, none⟩ = some (.string (BA mk)) := (unhide HSS).pen.cell 1 rfl
  have n2 : ws.cell? ⟨w.heap.size + 1, 2, none⟩ = some (.func (Fn.func I) #[] #[]) := (unhide HSS).pen.cell 2 rfl
  go_wp2_with fail
  refine ((unhide HSS).put (opT 0) (by first | rfl | simp) (by simp; omega)).mono ?_
  rintro e w4 ⟨rfl, a4⟩
  have HS4 := hide a4
  clear a4
  clear p0 p1 p2 p3 p4 p5 n0 n1 n2
  have p0 : w4.cell? ⟨w.heap.size, 0, none⟩ = some (.int .i64 kd) := (unhide HS4).part.cell 0 rfl
  have p1 : w4.cell? ⟨w.heap.size, 1, none⟩ = some (.string (BA t)) := (unhide HS4).part.cell 1 rfl
  have p2 : w4.cell? ⟨w.heap.size, 2, none⟩ = some (.bool q) := (unhide HS4).part.cell 2 rfl
  have p3 : w4.cell? ⟨w.heap.size, 3, none⟩ = some (.int .i64 0) := (unhide HS4).part.cell 3 rfl
  have p4 : w4.cell? ⟨w.heap.size, 4, none⟩ = some (.bool true) := (unhide HS4).part.cell 4 rfl
  have p5 : w4.cell? ⟨w.heap.size, 5, none⟩ = some v := (unhide HS4).part.cell 5 rfl
  have n0 : w4.cell? ⟨w.heap.size + 1, 0, none⟩ = some (.func (Fn.func L) #[] #[]) := (unhide HS4).pen.cell 0 rfl
  have n1 : w4.cell? ⟨w.heap.size + 1, 1, none⟩ = some (.string (BA mk)) := (unhide HS4).pen.cell 1 rfl
  have n2 : w4.cell? ⟨w.heap.size + 1, 2, none⟩ = some (.func (Fn.func I) #[] #[]) := (unhide HS4).pen.cell 2 rfl
  go_wp2_with fail
  refine ((unhide HS4).put [125] (by first | rfl | simp) (by simp; omega)).mono ?_
  rintro e w5 ⟨rfl, a5⟩
  have HZ := hide a5.wrote
  clear a5
  go_wp2
  refine bodyPost_end (res0 rfl _ _) rfl ?_
  refine ⟨rfl, ?_⟩
  rw [unhide HEQ]
  simpa only [List.append_assoc] using unhide HZ
set_option maxRecDepth 20000 in
set_option maxHeartbeats 8000000 in
theorem pbrace_1f (L I : Nat) (mk : List UInt8) (dk : Nat) (kd : Int) (t : List UInt8) (q : Bool) (v : Value) (s : List Prt) (w : World) (b : Nat) (X : Nat → Prop) (full : List UInt8)
    (he : WEnv w) (hb3 : 3 ≤ b) (h : PgC w b X full) (hl : (full ++ dolOf 2 t 1 false (wrdT dk s)).length ≤ 10000) :
    Calls Tryz.prog 81 #[.pointer (some ⟨b, 0, none⟩), .agg #[.int .i64 kd, .string (BA t), .bool q, .int .i64 1, .bool false, v], .agg #[.func (Fn.func L) #[] #[], .string (BA mk), .func (Fn.func I) #[] #[]]] w fun e w' => e = .returned (.tuple #[]) ∧ Wrote w b X (full ++ dolOf 2 t 1 false (wrdT dk s)) w' := by
  have HEQ : Hid (dolOf 2 t 1 false (wrdT dk s) = [36, 123] ++ [35] ++ t ++ opT 1 ++ [125]) := hide (by simp [dolOf])
  rw [unhide HEQ] at hl
  have hfl : full.length ≤ 10000 := by simp at hl; omega
  have htl : t.length ≤ 10000 := by simp at hl; omega
  have hol := opT_len 1
  have HS0 := hide (Sd.two h hb3 #[.int .i64 kd, .string (BA t), .bool q, .int .i64 1, .bool false, v] #[.func (Fn.func L) #[] #[], .string (BA mk), .func (Fn.func I) #[] #[]])
  have HE := hide he
  clear h hl he
  go_enter Tryz.func81, Tryz.ntmps81
  go_wp2_with fail
  refine ((unhide HS0).put [36, 123] (by first | rfl | simp) (by simp; omega)).mono ?_
  rintro e w1 ⟨rfl, a1⟩
  have HS1 := hide a1
  clear a1
  have p0 : w1.cell? ⟨w.heap.size, 0, none⟩ = some (.int .i64 kd) := (unhide HS1).part.cell 0 rfl
  have p1 : w1.cell? ⟨w.heap.size, 1, none⟩ = some (.string (BA t)) := (unhide HS1).part.cell 1 rfl
  have p2 : w1.cell? ⟨w.heap.size, 2, none⟩ = some (.bool q) := (unhide HS1).part.cell 2 rfl
  have p3 : w1.cell? ⟨w.heap.size, 3, none⟩ = some (.int .i64 1) := (unhide HS1).part.cell 3 rfl
  have p4 : w1.cell? ⟨w.heap.size, 4, none⟩ = some (.bool false) := (unhide HS1).part.cell 4 rfl
  have p5 : w1.cell? ⟨w.heap.size, 5, none⟩ = some v := (unhide HS1).part.cell 5 rfl
  have n0 : w1.cell? ⟨w.heap.size + 1, 0, none⟩ = some (.func (Fn.func L) #[] #[]) := (unhide HS1).pen.cell 0 rfl
  have n1 : w1.cell? ⟨w.heap.size + 1, 1, none⟩ = some (.string (BA mk)) := (unhide HS1).pen.cell 1 rfl
  have n2 : w1.cell? ⟨w.heap.size + 1, 2, none⟩ = some (.func (Fn.func I) #[] #[]) := (unhide HS1).pen.cell 2 rfl
  go_wp2_with fail
  refine ((unhide HS1).put [35] (by first | rfl | simp) (by simp; omega)).mono ?_
  rintro e w2 ⟨rfl, a2⟩
  have HS2 := hide a2
  clear a2
  clear p0 p1 p2 p3 p4 p5 n0 n1 n2
  have p0 : w2.cell? ⟨w.heap.size, 0, none⟩ = some (.int .i64 kd) := (unhide HS2).part.cell 0 rfl
  have p1 : w2.cell? ⟨w.heap.size, 1, none⟩ = some (.string (BA t)) := (unhide HS2).part.cell 1 rfl
  have p2 : w2.cell? ⟨w.heap.size, 2, none⟩ = some (.bool q) := (unhide HS2).part.cell 2 rfl
  have p3 : w2.cell? ⟨w.heap.size, 3, none⟩ = some (.int .i64 1) := (unhide HS2).part.cell 3 rfl
  have p4 : w2.cell? ⟨w.heap.size, 4, none⟩ = some (.bool false) := (unhide HS2).part.cell 4 rfl
  have p5 : w2.cell? ⟨w.heap.size, 5, none⟩ = some v := (unhide HS2).part.cell 5 rfl
  have n0 : w2.cell? ⟨w.heap.size + 1, 0, none⟩ = some (.func (Fn.func L) #[] #[]) := (unhide HS2).pen.cell 0 rfl
  have n1 : w2.cell? ⟨w.heap.size + 1, 1, none⟩ = some (.string (BA mk)) := (unhide HS2).pen.cell 1 rfl
  have n2 : w2.cell? ⟨w.heap.size + 1, 2, none⟩ = some (.func (Fn.func I) #[] #[]) := (unhide HS2).pen.cell 2 rfl
  go_wp2_with fail
  refine ((unhide HS2).put t (by first | rfl | simp) (by simp; omega)).mono ?_
  rintro e w3 ⟨rfl, a3⟩
  have HS3 := hide a3
  clear a3
  clear p0 p1 p2 p3 p4 p5 n0 n1 n2
  have p0 : w3.cell? ⟨w.heap.size, 0, none⟩ = some (.int .i64 kd) := (unhide HS3).part.cell 0 rfl
  have p1 : w3.cell? ⟨w.heap.size, 1, none⟩ = some (.string (BA t)) := (unhide HS3).part.cell 1 rfl
  have p2 : w3.cell? ⟨w.heap.size, 2, none⟩ = some (.bool q) := (unhide HS3).part.cell 2 rfl
  have p3 : w3.cell? ⟨w.heap.size, 3, none⟩ = some (.int .i64 1) := (unhide HS3).part.cell 3 rfl
  have p4 : w3.cell? ⟨w.heap.size, 4, none⟩ = some (.bool false) := (unhide HS3).part.cell 4 rfl
  have p5 : w3.cell? ⟨w.heap.size, 5, none⟩ = some v := (unhide HS3).part.cell 5 rfl
  have n0 : w3.cell? ⟨w.heap.size + 1, 0, none⟩ = some (.func (Fn.func L) #[] #[]) := (unhide HS3).pen.cell 0 rfl
  have n1 : w3.cell? ⟨w.heap.size + 1, 1, none⟩ = some (.string (BA mk)) := (unhide HS3).pen.cell 1 rfl
  have n2 : w3.cell? ⟨w.heap.size + 1, 2, none⟩ = some (.func (Fn.func I) #[] #[]) := (unhide HS3).pen.cell 2 rfl
  go_wp2_with fail
  refine (sign_any 1 _ ((unhide HS3).env (unhide HE))).mono ?_
  rintro e ws ⟨rfl, bs⟩
  have HSS := hide ((unhide HS3).below bs)
  clear p0 p1 p2 p3 p4 p5 n0 n1 n2
  clear bs
  have p0 : ws.cell? ⟨w.heap.size, 0, none⟩ = some (.int .i64 kd) := (unhide HSS).part.cell 0 rfl
  have p1 : ws.cell? ⟨w.heap.size, 1, none⟩ = some (.string (BA t)) := (unhide HSS).part.cell 1 rfl
  have p2 : ws.cell? ⟨w.heap.size, 2, none⟩ = some (.bool q) := (unhide HSS).part.cell 2 rfl
  have p3 : ws.cell? ⟨w.heap.size, 3, none⟩ = some (.int .i64 1) := (unhide HSS).part.cell 3 rfl
  have p4 : ws.cell? ⟨w.heap.size, 4, none⟩ = some (.bool false) := (unhide HSS).part.cell 4 rfl
  have p5 : ws.cell? ⟨w.heap.size, 5, none⟩ = some v := (unhide HSS).part.cell 5 rfl
  have n0 : ws.cell? ⟨w.heap.size + 1, 0, none⟩ = some (.func (Fn.func L) #[] #[]) := (unhide HSS).pen.cell 0 rfl
  have n1 : ws.cell? ⟨w.heap.size + 1, 1, none⟩ = some (.string (BA mk)) := (unhide HSS).pen.cell 1 rfl
  have n2 : ws.cell? ⟨w.heap.size + 1, 2, none⟩ = some (.func (Fn.func I) #[] #[]) := (unhide HSS).pen.cell 2 rfl
  go_wp2_with fail
  refine ((unhide HSS).put (opT 1) (by first | rfl | simp) (by simp; omega)).mono ?_
  rintro e w4 ⟨rfl, a4⟩
  have HS4 := hide a4
  clear a4
  clear p0 p1 p2 p3 p4 p5 n0 n1 n2
  have p0 : w4.cell? ⟨w.heap.size, 0, none⟩ = some (.int .i64 kd) := (unhide HS4).part.cell 0 rfl
  have p1 : w4.cell? ⟨w.heap.size, 1, none⟩ = some (.string (BA t)) := (unhide HS4).part.cell 1 rfl
  have p2 : w4.cell? ⟨w.heap.size, 2, none⟩ = some (.bool q) := (unhide HS4).part.cell 2 rfl
  have p3 : w4.cell? ⟨w.heap.size, 3, none⟩ = some (.int .i64 1) := (unhide HS4).part.cell 3 rfl
  have p4 : w4.cell? ⟨w.heap.size, 4, none⟩ = some (.bool false) := (unhide HS4).part.cell 4 rfl
  have p5 : w4.cell? ⟨w.heap.size, 5, none⟩ = some v := (unhide HS4).part.cell 5 rfl
  have n0 : w4.cell? ⟨w.heap.size + 1, 0, none⟩ = some (.func (Fn.func L) #[] #[]) := (unhide HS4).pen.cell 0 rfl
  have n1 : w4.cell? ⟨w.heap.size + 1, 1, none⟩ = some (.string (BA mk)) := (unhide HS4).pen.cell 1 rfl
  have n2 : w4.cell? ⟨w.heap.size + 1, 2, none⟩ = some (.func (Fn.func I) #[] #[]) := (unhide HS4).pen.cell 2 rfl
  go_wp2_with fail
  refine ((unhide HS4).put [125] (by first | rfl | simp) (by simp; omega)).mono ?_
  rintro e w5 ⟨rfl, a5⟩
  have HZ := hide a5.wrote
  clear a5
  go_wp2
  refine bodyPost_end (res0 rfl _ _) rfl ?_
  refine ⟨rfl, ?_⟩
  rw [unhide HEQ]
  simpa only [List.append_assoc] using unhide HZ
set_option maxRecDepth 20000 in
set_option maxHeartbeats 8000000 in
theorem pbrace_1t (L I : Nat) (mk : List UInt8) (dk : Nat) (kd : Int) (t : List UInt8) (q : Bool) (v : Value) (s : List Prt) (w : World) (b : Nat) (X : Nat → Prop) (full : List UInt8)
    (he : WEnv w) (hb3 : 3 ≤ b) (h : PgC w b X full) (hl : (full ++ dolOf 2 t 1 true (wrdT dk s)).length ≤ 10000) :
    Calls Tryz.prog 81 #[.pointer (some ⟨b, 0, none⟩), .agg #[.int .i64 kd, .string (BA t), .bool q, .int .i64 1, .bool true, v], .agg #[.func (Fn.func L) #[] #[], .string (BA mk), .func (Fn.func I) #[] #[]]] w fun e w' => e = .returned (.tuple #[]) ∧ Wrote w b X (full ++ dolOf 2 t 1 true (wrdT dk s)) w' := by
  have HEQ : Hid (dolOf 2 t 1 true (wrdT dk s) = [36, 123] ++ [35] ++ t ++ [58] ++ opT 1 ++ [125]) := hide (by simp [dolOf])
  rw [unhide HEQ] at hl
  have hfl : full.length ≤ 10000 := by simp at hl; omega
  have htl : t.length ≤ 10000 := by simp at hl; omega
  have hol := opT_len 1
  have HS0 := hide (Sd.two h hb3 #[.int .i64 kd, .string (BA t), .bool q, .int .i64 1, .bool true, v] #[.func (Fn.func L) #[] #[], .string (BA mk), .func (Fn.func I) #[] #[]])
  have HE := hide he
  clear h hl he
  go_enter Tryz.func81, Tryz.ntmps81
  go_wp2_with fail
  refine ((unhide HS0).put [36, 123] (by first | rfl | simp) (by simp; omega)).mono ?_
  rintro e w1 ⟨rfl, a1⟩
  have HS1 := hide a1
  clear a1
  have p0 : w1.cell? ⟨w.heap.size, 0, none⟩ = some (.int .i64 kd) := (unhide HS1).part.cell 0 rfl
  have p1 : w1.cell? ⟨w.heap.size, 1, none⟩ = some (.string (BA t)) := (unhide HS1).part.cell 1 rfl
  have p2 : w1.cell? ⟨w.heap.size, 2, none⟩ = some (.bool q) := (unhide HS1).part.cell 2 rfl
  have p3 : w1.cell? ⟨w.heap.size, 3, none⟩ = some (.int .i64 1) := (unhide HS1).part.cell 3 rfl
  have p4 : w1.cell? ⟨w.heap.size, 4, none⟩ = some (.bool true) := (unhide HS1).part.cell 4 rfl
  have p5 : w1.cell? ⟨w.heap.size, 5, none⟩ = some v := (unhide HS1).part.cell 5 rfl
  have n0 : w1.cell? ⟨w.heap.size + 1, 0, none⟩ = some (.func (Fn.func L) #[] #[]) := (unhide HS1).pen.cell 0 rfl
  have n1 : w1.cell? ⟨w.heap.size + 1, 1, none⟩ = some (.string (BA mk)) := (unhide HS1).pen.cell 1 rfl
  have n2 : w1.cell? ⟨w.heap.size + 1, 2, none⟩ = some (.func (Fn.func I) #[] #[]) := (unhide HS1).pen.cell 2 rfl
  go_wp2_with fail
  refine ((unhide HS1).put [35] (by first | rfl | simp) (by simp; omega)).mono ?_
  rintro e w2 ⟨rfl, a2⟩
  have HS2 := hide a2
  clear a2
  clear p0 p1 p2 p3 p4 p5 n0 n1 n2
  have p0 : w2.cell? ⟨w.heap.size, 0, none⟩ = some (.int .i64 kd) := (unhide HS2).part.cell 0 rfl
  have p1 : w2.cell? ⟨w.heap.size, 1, none⟩ = some (.string (BA t)) := (unhide HS2).part.cell 1 rfl
  have p2 : w2.cell? ⟨w.heap.size, 2, none⟩ = some (.bool q) := (unhide HS2).part.cell 2 rfl
  have p3 : w2.cell? ⟨w.heap.size, 3, none⟩ = some (.int .i64 1) := (unhide HS2).part.cell 3 rfl
  have p4 : w2.cell? ⟨w.heap.size, 4, none⟩ = some (.bool true) := (unhide HS2).part.cell 4 rfl
  have p5 : w2.cell? ⟨w.heap.size, 5, none⟩ = some v := (unhide HS2).part.cell 5 rfl
  have n0 : w2.cell? ⟨w.heap.size + 1, 0, none⟩ = some (.func (Fn.func L) #[] #[]) := (unhide HS2).pen.cell 0 rfl
  have n1 : w2.cell? ⟨w.heap.size + 1, 1, none⟩ = some (.string (BA mk)) := (unhide HS2).pen.cell 1 rfl
  have n2 : w2.cell? ⟨w.heap.size + 1, 2, none⟩ = some (.func (Fn.func I) #[] #[]) := (unhide HS2).pen.cell 2 rfl
  go_wp2_with fail
  refine ((unhide HS2).put t (by first | rfl | simp) (by simp; omega)).mono ?_
  rintro e w3 ⟨rfl, a3⟩
  have HS3 := hide a3
  clear a3
  clear p0 p1 p2 p3 p4 p5 n0 n1 n2
  have p0 : w3.cell? ⟨w.heap.size, 0, none⟩ = some (.int .i64 kd) := (unhide HS3).part.cell 0 rfl
  have p1 : w3.cell? ⟨w.heap.size, 1, none⟩ = some (.string (BA t)) := (unhide HS3).part.cell 1 rfl
  have p2 : w3.cell? ⟨w.heap.size, 2, none⟩ = some (.bool q) := (unhide HS3).part.cell 2 rfl
  have p3 : w3.cell? ⟨w.heap.size, 3, none⟩ = some (.int .i64 1) := (unhide HS3).part.cell 3 rfl
  have p4 : w3.cell? ⟨w.heap.size, 4, none⟩ = some (.bool true) := (unhide HS3).part.cell 4 rfl
  have p5 : w3.cell? ⟨w.heap.size, 5, none⟩ = some v := (unhide HS3).part.cell 5 rfl
  have n0 : w3.cell? ⟨w.heap.size + 1, 0, none⟩ = some (.func (Fn.func L) #[] #[]) := (unhide HS3).pen.cell 0 rfl
  have n1 : w3.cell? ⟨w.heap.size + 1, 1, none⟩ = some (.string (BA mk)) := (unhide HS3).pen.cell 1 rfl
  have n2 : w3.cell? ⟨w.heap.size + 1, 2, none⟩ = some (.func (Fn.func I) #[] #[]) := (unhide HS3).pen.cell 2 rfl
  go_wp2_with fail
  refine ((unhide HS3).put [58] (by first | rfl | simp) (by simp; omega)).mono ?_
  rintro e w4 ⟨rfl, a4⟩
  have HS4 := hide a4
  clear a4
  clear p0 p1 p2 p3 p4 p5 n0 n1 n2
  have p0 : w4.cell? ⟨w.heap.size, 0, none⟩ = some (.int .i64 kd) := (unhide HS4).part.cell 0 rfl
  have p1 : w4.cell? ⟨w.heap.size, 1, none⟩ = some (.string (BA t)) := (unhide HS4).part.cell 1 rfl
  have p2 : w4.cell? ⟨w.heap.size, 2, none⟩ = some (.bool q) := (unhide HS4).part.cell 2 rfl
  have p3 : w4.cell? ⟨w.heap.size, 3, none⟩ = some (.int .i64 1) := (unhide HS4).part.cell 3 rfl
  have p4 : w4.cell? ⟨w.heap.size, 4, none⟩ = some (.bool true) := (unhide HS4).part.cell 4 rfl
  have p5 : w4.cell? ⟨w.heap.size, 5, none⟩ = some v := (unhide HS4).part.cell 5 rfl
  have n0 : w4.cell? ⟨w.heap.size + 1, 0, none⟩ = some (.func (Fn.func L) #[] #[]) := (unhide HS4).pen.cell 0 rfl
  have n1 : w4.cell? ⟨w.heap.size + 1, 1, none⟩ = some (.string (BA mk)) := (unhide HS4).pen.cell 1 rfl
  have n2 : w4.cell? ⟨w.heap.size + 1, 2, none⟩ = some (.func (Fn.func I) #[] #[]) := (unhide HS4).pen.cell 2 rfl
  go_wp2_with fail
  refine (sign_any 1 _ ((unhide HS4).env (unhide HE))).mono ?_
  rintro e ws ⟨rfl, bs⟩
  have HSS := hide ((unhide HS4).below bs)
  clear p0 p1 p2 p3 p4 p5 n0 n1 n2
  clear bs
  have p0 : ws.cell? ⟨w.heap.size, 0, none⟩ = some (.int .i64 kd) := (unhide HSS).part.cell 0 rfl
  have p1 : ws.cell? ⟨w.heap.size, 1, none⟩ = some (.string (BA t)) := (unhide HSS).part.cell 1 rfl
  have p2 : ws.cell? ⟨w.heap.size, 2, none⟩ = some (.bool q) := (unhide HSS).part.cell 2 rfl
  have p3 : ws.cell? ⟨w.heap.size, 3, none⟩ = some (.int .i64 1) := (unhide HSS).part.cell 3 rfl
  have p4 : ws.cell? ⟨w.heap.size, 4, none⟩ = some (.bool true) := (unhide HSS).part.cell 4 rfl
  have p5 : ws.cell? ⟨w.heap.size, 5, none⟩ = some v := (unhide HSS).part.cell 5 rfl
  have n0 : ws.cell? ⟨w.heap.size + 1, 0, none⟩ = some (.func (Fn.func L) #[] #[]) := (unhide HSS).pen.cell 0 rfl
  have n1 : ws.cell? ⟨w.heap.size + 1, 1, none⟩ = some (.string (BA mk)) := (unhide HSS).pen.cell 1 rfl
  have n2 : ws.cell? ⟨w.heap.size + 1, 2, none⟩ = some (.func (Fn.func I) #[] #[]) := (unhide HSS).pen.cell 2 rfl
  go_wp2_with fail
  refine ((unhide HSS).put (opT 1) (by first | rfl | simp) (by simp; omega)).mono ?_
  rintro e w5 ⟨rfl, a5⟩
  have HS5 := hide a5
  clear a5
  clear p0 p1 p2 p3 p4 p5 n0 n1 n2
  have p0 : w5.cell? ⟨w.heap.size, 0, none⟩ = some (.int .i64 kd) := (unhide HS5).part.cell 0 rfl
  have p1 : w5.cell? ⟨w.heap.size, 1, none⟩ = some (.string (BA t)) := (unhide HS5).part.cell 1 rfl
  have p2 : w5.cell? ⟨w.heap.size, 2, none⟩ = some (.bool q) := (unhide HS5).part.cell 2 rfl
  have p3 : w5.cell? ⟨w.heap.size, 3, none⟩ = some (.int .i64 1) := (unhide HS5).part.cell 3 rfl
  have p4 : w5.cell? ⟨w.heap.size, 4, none⟩ = some (.bool true) := (unhide HS5).part.cell 4 rfl
  have p5 : w5.cell? ⟨w.heap.size, 5, none⟩ = some v := (unhide HS5).part.cell 5 rfl
  have n0 : w5.cell? ⟨w.heap.size + 1, 0, none⟩ = some (.func (Fn.func L) #[] #[]) := (unhide HS5).pen.cell 0 rfl
  have n1 : w5.cell? ⟨w.heap.size + 1, 1, none⟩ = some (.string (BA mk)) := (unhide HS5).pen.cell 1 rfl
  have n2 : w5.cell? ⟨w.heap.size + 1, 2, none⟩ = some (.func (Fn.func I) #[] #[]) := (unhide HS5).pen.cell 2 rfl
  go_wp2_with fail
  refine ((unhide HS5).put [125] (by first | rfl | simp) (by simp; omega)).mono ?_
  rintro e w6 ⟨rfl, a6⟩
  have HZ := hide a6.wrote
  clear a6
  go_wp2
  refine bodyPost_end (res0 rfl _ _) rfl ?_
  refine ⟨rfl, ?_⟩
  rw [unhide HEQ]
  simpa only [List.append_assoc] using unhide HZ
end Go.Proofs.YtnamfjbfcbamjaaGreatDoor

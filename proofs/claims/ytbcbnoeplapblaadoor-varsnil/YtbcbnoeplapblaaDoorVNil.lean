/-
  The law's do at a nil object; All, Env and Copy of one.
-/
import Derived.Test.YtbcbnoeplapblaaDoorVLaw
import Derived.Deep.CutRange
namespace Go.Proofs.YtbcbnoeplapblaaDoor
open Go.RowKit Go.Maps

set_option maxRecDepth 20000 in
set_option maxHeartbeats 4000000 in
theorem don_uns (k n : Int) (na va : ByteArray) (ad : Option Addr) (len cap : Nat) (w : World) (hk : kndI k = 2)
    (HC : Hid (∀ W, Calls Tryd.prog 30 #[.pointer none, .string na] W fun e w' => e = .returned (.int .i64 2) ∧ w' = W)) :
    Calls Tryd.prog 11 #[.pointer none, .agg #[.int .i64 k, .string na, .string va, .int .i64 n, .slice ad len cap]] w fun e w' => e = .returned (.int .i64 2) ∧ Below w.heap.size w w' := by
  have HK := hide (fun W => kind_any k n na va (.slice ad len cap) W)
  rw [hk] at HK
  clear hk
  go_enter Tryd.func11, Tryd.ntmps11
  go_wp2_with fail
  refine (unhide HK _).mono ?_
  rintro e w1 ⟨rfl, b1⟩
  have hnew := (Blk.new w 35 #[.int .i64 k, .string na, .string va, .int .i64 n, .slice ad len cap]).below b1 (by simp)
  have HB : Hid (Below w.heap.size w w1) := hide (((Below.refl _ w).alloc (Nat.le_refl _) _).trans (b1.mono (by simp)))
  obtain ⟨nb, hnb⟩ : ∃ nb, nb = w.heap.size := ⟨_, rfl⟩
  rw [← hnb] at hnew
  rw [← hnb]
  have e1 : w1.cell? ⟨nb, 1, none⟩ = some (.string na) := hnew.cell 1 rfl
  have e2 : w1.cell? ⟨nb, 2, none⟩ = some (.string va) := hnew.cell 2 rfl
  have e3 : w1.cell? ⟨nb, 3, none⟩ = some (.int .i64 n) := hnew.cell 3 rfl
  have e4 : w1.cell? ⟨nb, 4, none⟩ = some (.slice ad len cap) := hnew.cell 4 rfl
  clear hnew b1 hnb HK
  go_wp2_with fail
  refine (unhide HC _).mono ?_
  rintro e w2 ⟨rfl, rfl⟩
  go_wp2
  go_ret
  exact ⟨rfl, unhide HB⟩
set_option maxRecDepth 20000 in
set_option maxHeartbeats 4000000 in
theorem don_exp (k n : Int) (na va : ByteArray) (ad : Option Addr) (len cap : Nat) (w : World) (hk : kndI k = 3)
    (HC : Hid (∀ W, Calls Tryd.prog 31 #[.pointer none, .string na] W fun e w' => e = .returned (.int .i64 2) ∧ w' = W)) :
    Calls Tryd.prog 11 #[.pointer none, .agg #[.int .i64 k, .string na, .string va, .int .i64 n, .slice ad len cap]] w fun e w' => e = .returned (.int .i64 2) ∧ Below w.heap.size w w' := by
  have HK := hide (fun W => kind_any k n na va (.slice ad len cap) W)
  rw [hk] at HK
  clear hk
  go_enter Tryd.func11, Tryd.ntmps11
  go_wp2_with fail
  refine (unhide HK _).mono ?_
  rintro e w1 ⟨rfl, b1⟩
  have hnew := (Blk.new w 35 #[.int .i64 k, .string na, .string va, .int .i64 n, .slice ad len cap]).below b1 (by simp)
  have HB : Hid (Below w.heap.size w w1) := hide (((Below.refl _ w).alloc (Nat.le_refl _) _).trans (b1.mono (by simp)))
  obtain ⟨nb, hnb⟩ : ∃ nb, nb = w.heap.size := ⟨_, rfl⟩
  rw [← hnb] at hnew
  rw [← hnb]
  have e1 : w1.cell? ⟨nb, 1, none⟩ = some (.string na) := hnew.cell 1 rfl
  have e2 : w1.cell? ⟨nb, 2, none⟩ = some (.string va) := hnew.cell 2 rfl
  have e3 : w1.cell? ⟨nb, 3, none⟩ = some (.int .i64 n) := hnew.cell 3 rfl
  have e4 : w1.cell? ⟨nb, 4, none⟩ = some (.slice ad len cap) := hnew.cell 4 rfl
  clear hnew b1 hnb HK
  go_wp2_with fail
  refine (unhide HC _).mono ?_
  rintro e w2 ⟨rfl, rfl⟩
  go_wp2
  go_ret
  exact ⟨rfl, unhide HB⟩
set_option maxRecDepth 20000 in
set_option maxHeartbeats 4000000 in
theorem don_rdo (k n : Int) (na va : ByteArray) (ad : Option Addr) (len cap : Nat) (w : World) (hk : kndI k = 4)
    (HC : Hid (∀ W, Calls Tryd.prog 23 #[.pointer none, .string na] W fun e w' => e = .returned (.int .i64 2) ∧ w' = W)) :
    Calls Tryd.prog 11 #[.pointer none, .agg #[.int .i64 k, .string na, .string va, .int .i64 n, .slice ad len cap]] w fun e w' => e = .returned (.int .i64 2) ∧ Below w.heap.size w w' := by
  have HK := hide (fun W => kind_any k n na va (.slice ad len cap) W)
  rw [hk] at HK
  clear hk
  go_enter Tryd.func11, Tryd.ntmps11
  go_wp2_with fail
  refine (unhide HK _).mono ?_
  rintro e w1 ⟨rfl, b1⟩
  have hnew := (Blk.new w 35 #[.int .i64 k, .string na, .string va, .int .i64 n, .slice ad len cap]).below b1 (by simp)
  have HB : Hid (Below w.heap.size w w1) := hide (((Below.refl _ w).alloc (Nat.le_refl _) _).trans (b1.mono (by simp)))
  obtain ⟨nb, hnb⟩ : ∃ nb, nb = w.heap.size := ⟨_, rfl⟩
  rw [← hnb] at hnew
  rw [← hnb]
  have e1 : w1.cell? ⟨nb, 1, none⟩ = some (.string na) := hnew.cell 1 rfl
  have e2 : w1.cell? ⟨nb, 2, none⟩ = some (.string va) := hnew.cell 2 rfl
  have e3 : w1.cell? ⟨nb, 3, none⟩ = some (.int .i64 n) := hnew.cell 3 rfl
  have e4 : w1.cell? ⟨nb, 4, none⟩ = some (.slice ad len cap) := hnew.cell 4 rfl
  clear hnew b1 hnb HK
  go_wp2_with fail
  refine (unhide HC _).mono ?_
  rintro e w2 ⟨rfl, rfl⟩
  go_wp2
  go_ret
  exact ⟨rfl, unhide HB⟩
set_option maxRecDepth 20000 in
set_option maxHeartbeats 4000000 in
theorem don_arg (k n : Int) (na va : ByteArray) (ad : Option Addr) (len cap : Nat) (w : World) (hk : kndI k = 5)
    (HC : Hid (∀ W, Calls Tryd.prog 32 #[.pointer none, .slice ad len cap] W fun e w' => e = .returned (.tuple #[]) ∧ w' = W)) :
    Calls Tryd.prog 11 #[.pointer none, .agg #[.int .i64 k, .string na, .string va, .int .i64 n, .slice ad len cap]] w fun e w' => e = .returned (.int .i64 0) ∧ Below w.heap.size w w' := by
  have HK := hide (fun W => kind_any k n na va (.slice ad len cap) W)
  rw [hk] at HK
  clear hk
  go_enter Tryd.func11, Tryd.ntmps11
  go_wp2_with fail
  refine (unhide HK _).mono ?_
  rintro e w1 ⟨rfl, b1⟩
  have hnew := (Blk.new w 35 #[.int .i64 k, .string na, .string va, .int .i64 n, .slice ad len cap]).below b1 (by simp)
  have HB : Hid (Below w.heap.size w w1) := hide (((Below.refl _ w).alloc (Nat.le_refl _) _).trans (b1.mono (by simp)))
  obtain ⟨nb, hnb⟩ : ∃ nb, nb = w.heap.size := ⟨_, rfl⟩
  rw [← hnb] at hnew
  rw [← hnb]
  have e1 : w1.cell? ⟨nb, 1, none⟩ = some (.string na) := hnew.cell 1 rfl
  have e2 : w1.cell? ⟨nb, 2, none⟩ = some (.string va) := hnew.cell 2 rfl
  have e3 : w1.cell? ⟨nb, 3, none⟩ = some (.int .i64 n) := hnew.cell 3 rfl
  have e4 : w1.cell? ⟨nb, 4, none⟩ = some (.slice ad len cap) := hnew.cell 4 rfl
  clear hnew b1 hnb HK
  go_wp2_with fail
  refine (unhide HC _).mono ?_
  rintro e w2 ⟨rfl, rfl⟩
  go_wp2
  go_ret
  exact ⟨rfl, unhide HB⟩
set_option maxRecDepth 20000 in
set_option maxHeartbeats 4000000 in
theorem don_shf (k n : Int) (na va : ByteArray) (ad : Option Addr) (len cap : Nat) (w : World) (hk : kndI k = 6)
    (HC : Hid (∀ W, Calls Tryd.prog 28 #[.pointer none, .int .i64 n] W fun e w' => e = .returned (.int .i64 2) ∧ w' = W)) :
    Calls Tryd.prog 11 #[.pointer none, .agg #[.int .i64 k, .string na, .string va, .int .i64 n, .slice ad len cap]] w fun e w' => e = .returned (.int .i64 2) ∧ Below w.heap.size w w' := by
  have HK := hide (fun W => kind_any k n na va (.slice ad len cap) W)
  rw [hk] at HK
  clear hk
  go_enter Tryd.func11, Tryd.ntmps11
  go_wp2_with fail
  refine (unhide HK _).mono ?_
  rintro e w1 ⟨rfl, b1⟩
  have hnew := (Blk.new w 35 #[.int .i64 k, .string na, .string va, .int .i64 n, .slice ad len cap]).below b1 (by simp)
  have HB : Hid (Below w.heap.size w w1) := hide (((Below.refl _ w).alloc (Nat.le_refl _) _).trans (b1.mono (by simp)))
  obtain ⟨nb, hnb⟩ : ∃ nb, nb = w.heap.size := ⟨_, rfl⟩
  rw [← hnb] at hnew
  rw [← hnb]
  have e1 : w1.cell? ⟨nb, 1, none⟩ = some (.string na) := hnew.cell 1 rfl
  have e2 : w1.cell? ⟨nb, 2, none⟩ = some (.string va) := hnew.cell 2 rfl
  have e3 : w1.cell? ⟨nb, 3, none⟩ = some (.int .i64 n) := hnew.cell 3 rfl
  have e4 : w1.cell? ⟨nb, 4, none⟩ = some (.slice ad len cap) := hnew.cell 4 rfl
  clear hnew b1 hnb HK
  go_wp2_with fail
  refine (unhide HC _).mono ?_
  rintro e w2 ⟨rfl, rfl⟩
  go_wp2
  go_ret
  exact ⟨rfl, unhide HB⟩
set_option maxRecDepth 20000 in
set_option maxHeartbeats 4000000 in
theorem don_sts (k n : Int) (na va : ByteArray) (ad : Option Addr) (len cap : Nat) (w : World) (hk : kndI k = 7)
    (HC : Hid (∀ W, Calls Tryd.prog 33 #[.pointer none, .int .i64 n] W fun e w' => e = .returned (.tuple #[]) ∧ w' = W)) :
    Calls Tryd.prog 11 #[.pointer none, .agg #[.int .i64 k, .string na, .string va, .int .i64 n, .slice ad len cap]] w fun e w' => e = .returned (.int .i64 0) ∧ Below w.heap.size w w' := by
  have HK := hide (fun W => kind_any k n na va (.slice ad len cap) W)
  rw [hk] at HK
  clear hk
  go_enter Tryd.func11, Tryd.ntmps11
  go_wp2_with fail
  refine (unhide HK _).mono ?_
  rintro e w1 ⟨rfl, b1⟩
  have hnew := (Blk.new w 35 #[.int .i64 k, .string na, .string va, .int .i64 n, .slice ad len cap]).below b1 (by simp)
  have HB : Hid (Below w.heap.size w w1) := hide (((Below.refl _ w).alloc (Nat.le_refl _) _).trans (b1.mono (by simp)))
  obtain ⟨nb, hnb⟩ : ∃ nb, nb = w.heap.size := ⟨_, rfl⟩
  rw [← hnb] at hnew
  rw [← hnb]
  have e1 : w1.cell? ⟨nb, 1, none⟩ = some (.string na) := hnew.cell 1 rfl
  have e2 : w1.cell? ⟨nb, 2, none⟩ = some (.string va) := hnew.cell 2 rfl
  have e3 : w1.cell? ⟨nb, 3, none⟩ = some (.int .i64 n) := hnew.cell 3 rfl
  have e4 : w1.cell? ⟨nb, 4, none⟩ = some (.slice ad len cap) := hnew.cell 4 rfl
  clear hnew b1 hnb HK
  go_wp2_with fail
  refine (unhide HC _).mono ?_
  rintro e w2 ⟨rfl, rfl⟩
  go_wp2
  go_ret
  exact ⟨rfl, unhide HB⟩
set_option maxRecDepth 20000 in
set_option maxHeartbeats 4000000 in
theorem don_se0 (k n : Int) (na va : ByteArray) (ad : Option Addr) (len cap : Nat) (w : World) (hk : kndI k = 0)
    (HC : Hid (∀ W, Calls Tryd.prog 22 #[.pointer none, .string na, .string va] W fun e w' => e = .returned (.int .i64 2) ∧ w' = W)) :
    Calls Tryd.prog 11 #[.pointer none, .agg #[.int .i64 k, .string na, .string va, .int .i64 n, .slice ad len cap]] w fun e w' => e = .returned (.int .i64 2) ∧ Below w.heap.size w w' := by
  have HK := hide (fun W => kind_any k n na va (.slice ad len cap) W)
  rw [hk] at HK
  clear hk
  go_enter Tryd.func11, Tryd.ntmps11
  go_wp2_with fail
  refine (unhide HK _).mono ?_
  rintro e w1 ⟨rfl, b1⟩
  have hnew := (Blk.new w 35 #[.int .i64 k, .string na, .string va, .int .i64 n, .slice ad len cap]).below b1 (by simp)
  have HB : Hid (Below w.heap.size w w1) := hide (((Below.refl _ w).alloc (Nat.le_refl _) _).trans (b1.mono (by simp)))
  obtain ⟨nb, hnb⟩ : ∃ nb, nb = w.heap.size := ⟨_, rfl⟩
  rw [← hnb] at hnew
  rw [← hnb]
  have e1 : w1.cell? ⟨nb, 1, none⟩ = some (.string na) := hnew.cell 1 rfl
  have e2 : w1.cell? ⟨nb, 2, none⟩ = some (.string va) := hnew.cell 2 rfl
  have e3 : w1.cell? ⟨nb, 3, none⟩ = some (.int .i64 n) := hnew.cell 3 rfl
  have e4 : w1.cell? ⟨nb, 4, none⟩ = some (.slice ad len cap) := hnew.cell 4 rfl
  clear hnew b1 hnb HK
  go_wp2_with fail
  refine (unhide HC _).mono ?_
  rintro e w2 ⟨rfl, rfl⟩
  go_wp2
  go_ret
  exact ⟨rfl, unhide HB⟩
set_option maxRecDepth 20000 in
set_option maxHeartbeats 4000000 in
theorem don_se1 (k n : Int) (na va : ByteArray) (ad : Option Addr) (len cap : Nat) (w : World) (hk : kndI k = 1)
    (HC : Hid (∀ W, Calls Tryd.prog 22 #[.pointer none, .string na, .string va] W fun e w' => e = .returned (.int .i64 2) ∧ w' = W)) :
    Calls Tryd.prog 11 #[.pointer none, .agg #[.int .i64 k, .string na, .string va, .int .i64 n, .slice ad len cap]] w fun e w' => e = .returned (.int .i64 2) ∧ Below w.heap.size w w' := by
  have HK := hide (fun W => kind_any k n na va (.slice ad len cap) W)
  rw [hk] at HK
  clear hk
  go_enter Tryd.func11, Tryd.ntmps11
  go_wp2_with fail
  refine (unhide HK _).mono ?_
  rintro e w1 ⟨rfl, b1⟩
  have hnew := (Blk.new w 35 #[.int .i64 k, .string na, .string va, .int .i64 n, .slice ad len cap]).below b1 (by simp)
  have HB : Hid (Below w.heap.size w w1) := hide (((Below.refl _ w).alloc (Nat.le_refl _) _).trans (b1.mono (by simp)))
  obtain ⟨nb, hnb⟩ : ∃ nb, nb = w.heap.size := ⟨_, rfl⟩
  rw [← hnb] at hnew
  rw [← hnb]
  have e1 : w1.cell? ⟨nb, 1, none⟩ = some (.string na) := hnew.cell 1 rfl
  have e2 : w1.cell? ⟨nb, 2, none⟩ = some (.string va) := hnew.cell 2 rfl
  have e3 : w1.cell? ⟨nb, 3, none⟩ = some (.int .i64 n) := hnew.cell 3 rfl
  have e4 : w1.cell? ⟨nb, 4, none⟩ = some (.slice ad len cap) := hnew.cell 4 rfl
  clear hnew b1 hnb HK
  go_wp2_with fail
  refine (unhide HC _).mono ?_
  rintro e w2 ⟨rfl, rfl⟩
  go_wp2
  go_ret
  exact ⟨rfl, unhide HB⟩
/-- What do answers of a nil object. -/
def nilE (k : Int) : Int := if kndI k = 5 ∨ kndI k = 7 then 0 else 2
theorem do_nil (o : OpP) (ad : Option Addr) (len cap : Nat) (w : World) :
    Calls Tryd.prog 11 #[.pointer none, .agg #[.int .i64 o.kind, .string (BA o.name), .string (BA o.value), .int .i64 o.n, .slice ad len cap]] w fun e w' => e = .returned (.int .i64 (nilE o.kind)) ∧ Below w.heap.size w w' := by
  have hr := knd_range o.kind
  unfold nilE
  by_cases h2 : kndI o.kind = 2
  · rw [if_neg (by omega)]
    exact don_uns _ _ _ _ _ _ _ w h2 (hide (fun W => unset_nil o.name W))
  by_cases h3 : kndI o.kind = 3
  · rw [if_neg (by omega)]
    exact don_exp _ _ _ _ _ _ _ w h3 (hide (fun W => export_nil o.name W))
  by_cases h4 : kndI o.kind = 4
  · rw [if_neg (by omega)]
    exact don_rdo _ _ _ _ _ _ _ w h4 (hide (fun W => readonly_nil o.name W))
  by_cases h5 : kndI o.kind = 5
  · rw [if_pos (.inl h5)]
    exact don_arg _ _ _ _ _ _ _ w h5 (hide (fun W => setArgs_nil _ W))
  by_cases h6 : kndI o.kind = 6
  · rw [if_neg (by omega)]
    exact don_shf _ _ _ _ _ _ _ w h6 (hide (fun W => shift_nil _ W))
  by_cases h7 : kndI o.kind = 7
  · rw [if_pos (.inr h7)]
    exact don_sts _ _ _ _ _ _ _ w h7 (hide (fun W => setStatus_nil _ W))
  rw [if_neg (by omega)]
  by_cases h0 : kndI o.kind = 0
  · exact don_se0 _ _ _ _ _ _ _ w h0 (hide (fun W => set_nil o.name o.value W))
  · exact don_se1 _ _ _ _ _ _ _ w (by omega) (hide (fun W => set_nil o.name o.value W))
set_option maxHeartbeats 1000000 in
theorem all_nil (w : World) : Calls Tryd.prog 16 #[.pointer none] w fun e w' => e = .returned (.slice none 0 0) ∧ w' = w := by
  go_enter Tryd.func16, Tryd.ntmps16
  go_wp2
  go_ret
  exact ⟨rfl, rfl⟩
set_option maxHeartbeats 1000000 in
theorem copy_nil (w : World) : Calls Tryd.prog 24 #[.pointer none] w fun e w' => e = .returned (.pointer none) ∧ w' = w := by
  go_enter Tryd.func24, Tryd.ntmps24
  go_wp2
  go_ret
  exact ⟨rfl, rfl⟩
set_option maxRecDepth 20000 in
set_option maxHeartbeats 1000000 in
theorem env_nil (w : World) : Calls Tryd.prog 26 #[.pointer none] w fun e w' => e = .returned (.slice none 0 0) ∧ w' = w := by
  go_enter Tryd.func26, Tryd.ntmps26
  go_wp2_with fail
  refine (all_nil w).mono ?_
  rintro e w1 ⟨rfl, rfl⟩
  go_wp2
  go_loop [3, 9] (fun l i => l = .slice none 0 0 ∧ i = .int .i64 0) (fun _ _ => 0)
  case atStart => exact ⟨rfl, rfl⟩
  case round =>
    obtain ⟨rfl, rfl⟩ := hrel
    go_wp2
    go_ret
    exact ⟨rfl, rfl⟩
/-- One call as a slice. -/
theorem one_op {w : World} {o : OpP} {ad : Option Addr} {cap : Nat} (h : AIn w (.slice ad o.args.length cap) o.args) : OpsAt (w.alloc (.cells #[.int .i64 o.kind, .string (BA o.name), .string (BA o.value), .int .i64 o.n, .slice ad o.args.length cap] 35)) (.slice (some ⟨w.heap.size, 0, none⟩) 1 1) [o] := by
  refine ⟨_, _, rfl, (show 1 ≤ maxLen by decide), .inr ⟨_, _, rfl, by simp, fun i p hi => ?_⟩⟩
  have hb := Blk.new w 35 #[.int .i64 o.kind, .string (BA o.name), .string (BA o.value), .int .i64 o.n, .slice ad o.args.length cap]
  match i, hi with
  | 0, hi =>
    simp at hi
    subst hi
    exact ⟨hb.cell 0 rfl, hb.cell 1 rfl, hb.cell 2 rfl, hb.cell 3 rfl, _, hb.cell 4 rfl, h.below ((Below.refl _ w).alloc (Nat.le_refl _) _)⟩
set_option maxRecDepth 20000 in
set_option maxHeartbeats 8000000 in
theorem nil_walk (o : OpP) (u : Value) (p : List UInt8) (w : World) (h : AIn w u o.args) :
    Calls Tryd.prog 7 #[opV o u, .string (BA p)] w fun e w' => e = .returned (.bool true) ∧ Below w.heap.size w w' := by
  have HAW : Hid (∀ W, Below w.heap.size w W → Calls Tryd.prog 9 #[] W fun e w' => e = .returned (.bool true) ∧ Below w.heap.size w w') := hide (fun W hW => (awake_any W).mono (fun e w' ⟨h1, h2⟩ => ⟨h1, hW.trans (h2.mono hW.size)⟩))
  obtain ⟨ad, cap, rfl, hm⟩ := id h
  unfold opV
  obtain ⟨W, hW⟩ : ∃ W, W = w.alloc (.cells #[.int .i64 o.kind, .string (BA o.name), .string (BA o.value), .int .i64 o.n, .slice ad o.args.length cap] 35) := ⟨_, rfl⟩
  have HBW : Hid (Below w.heap.size w W) := hide (by rw [hW]; exact (Below.refl _ w).alloc (Nat.le_refl _) _)
  obtain ⟨W2, hW2⟩ : ∃ W2, W2 = W.alloc (.cells #[.int .i64 o.kind, .string (BA o.name), .string (BA o.value), .int .i64 o.n, .slice ad o.args.length cap] 35) := ⟨_, rfl⟩
  have HB2 : Hid (Below w.heap.size w W2) := hide ((unhide HBW).trans (by rw [hW2]; exact ((Below.refl _ W).alloc (Nat.le_refl _) _).mono (unhide HBW).size))
  have HFW : Hid (Calls Tryd.prog 8 #[.slice (some ⟨W.heap.size, 0, none⟩) 1 1] W2 fun e w' => e = .returned (.bool (fwB [o])) ∧ w' = W2) := hide (by
    rw [hW2]
    exact few_any _ _ _ (one_op (h.below (unhide HBW))))
  have hblk : Blk W2 w.heap.size 35 #[.int .i64 o.kind, .string (BA o.name), .string (BA o.value), .int .i64 o.n, .slice ad o.args.length cap] := by rw [hW2, hW]; exact (Blk.new _ _ _).alloc _
  obtain ⟨nb, hnb⟩ : ∃ nb, nb = w.heap.size := ⟨_, rfl⟩
  rw [← hnb] at hblk
  have HBK := hide hblk
  obtain ⟨nc, hnc⟩ : ∃ nc, nc = W.heap.size := ⟨_, rfl⟩
  rw [← hnc] at HFW
  have hnc1 : w.heap.size + 1 = nc := by rw [hnc, hW]; simp
  obtain ⟨fb, hfb⟩ : ∃ fb, fb = fwB [o] := ⟨_, rfl⟩
  rw [← hfb] at HFW
  have HDO : Hid (∀ W1, Below W2.heap.size W2 W1 → Calls Tryd.prog 11 #[.pointer none, .agg #[.int .i64 o.kind, .string (BA o.name), .string (BA o.value), .int .i64 o.n, .slice ad o.args.length cap]] W1 fun e w' => e = .returned (.int .i64 (nilE o.kind)) ∧ Below W2.heap.size W2 w') := hide (fun W1 h1 => (do_nil o ad o.args.length cap W1).mono (fun e w' ⟨a1, a2⟩ => ⟨a1, h1.trans (a2.mono h1.size)⟩))
  have HKD : Hid (∀ W1, Below W2.heap.size W2 W1 → Calls Tryd.prog 20 #[.agg #[.int .i64 o.kind, .string (BA o.name), .string (BA o.value), .int .i64 o.n, .slice ad o.args.length cap]] W1 fun e w' => e = .returned (.int .i64 (kndI o.kind)) ∧ Below W2.heap.size W2 w') := hide (fun W1 h1 => (kind_any o.kind o.n _ _ _ W1).mono (fun e w' ⟨a1, a2⟩ => ⟨a1, h1.trans (a2.mono h1.size)⟩))
  have HWW : Hid (∀ W1, Below W2.heap.size W2 W1 → Below w.heap.size w W1) := hide (fun W1 h1 => (unhide HB2).trans (h1.mono (unhide HB2).size))
  have HNE : Hid (nilE o.kind = if kndI o.kind = 5 ∨ kndI o.kind = 7 then 0 else 2) := hide rfl
  have HKR := hide (knd_range o.kind)
  obtain ⟨ne, hne⟩ : ∃ ne, ne = nilE o.kind := ⟨_, rfl⟩
  obtain ⟨kd, hkd⟩ : ∃ kd, kd = kndI o.kind := ⟨_, rfl⟩
  rw [← hne] at HDO HNE
  rw [← hkd] at HKD HNE HKR
  obtain ⟨al, hal⟩ : ∃ al, al = o.args.length := ⟨_, rfl⟩
  rw [← hal] at hW HDO HKD HBK hW2 ⊢
  have QW := hide hW
  have QW2 := hide hW2
  have QNB := hide hnb
  have QNC := hide hnc1
  clear hne hkd h hblk hfb hal hm hW hW2 hnb hnc hnc1
  by_cases hbad : fb = false ∨ 200 < p.length
  · have hq1 : fb = false ∨ (fb = true ∧ (200 : Int) < (p.length : Int)) := by
      cases fb with
      | false => exact .inl rfl
      | true =>
        rcases hbad with h | h
        · cases h
        · exact .inr ⟨rfl, by omega⟩
    clear hbad HDO HKD HBK HNE HKR HWW
    rcases hq1 with rfl | ⟨rfl, hq⟩
    all_goals
      go_enter Tryd.func7, Tryd.ntmps7
      go_wp2_with fail
      rw [← unhide QW, ← unhide QW2, unhide QNC, ← unhide QNB]
      clear QW QW2 QNB QNC
      refine (unhide HFW).mono ?_
      rintro e w1 ⟨rfl, rfl⟩
      go_wp2_with fail
      refine (unhide HAW _ (unhide HB2)).mono ?_
      rintro e w2 ⟨rfl, b2⟩
      have B := hide b2
      clear b2
      go_wp2
      go_ret
      exact ⟨rfl, unhide B⟩
  · obtain rfl : fb = true := by
      cases fb with
      | true => rfl
      | false => exact absurd (.inl rfl) hbad
    have hq : ¬ (200 : Int) < (p.length : Int) := by omega
    clear hbad
    have hb5 : kd = 5 ∨ kd = 7 ∨ (kd ≠ 5 ∧ kd ≠ 7) := by omega
    rcases hb5 with h5 | h7 | ⟨h5, h7⟩
    · subst h5
      rw [if_pos (.inl rfl)] at HNE
      obtain rfl := unhide HNE
      clear HNE HKR
      go_enter Tryd.func7, Tryd.ntmps7
      go_wp2_with fail
      rw [← unhide QW, ← unhide QW2, unhide QNC, ← unhide QNB]
      clear QW QW2 QNB QNC
      refine (unhide HFW).mono ?_
      rintro e w1 ⟨rfl, hw1⟩
      rw [show w1 = W2 from hw1]
      clear hw1
      have q0 : W2.cell? ⟨nb, 0, none⟩ = some (.int .i64 o.kind) := (unhide HBK).cell 0 rfl
      have q1 : W2.cell? ⟨nb, 1, none⟩ = some (.string (BA o.name)) := (unhide HBK).cell 1 rfl
      have q2 : W2.cell? ⟨nb, 2, none⟩ = some (.string (BA o.value)) := (unhide HBK).cell 2 rfl
      have q3 : W2.cell? ⟨nb, 3, none⟩ = some (.int .i64 o.n) := (unhide HBK).cell 3 rfl
      have q4 : W2.cell? ⟨nb, 4, none⟩ = some (.slice ad al cap) := (unhide HBK).cell 4 rfl
      go_wp2_with fail
      refine (unhide HDO _ (Below.refl _ _)).mono ?_
      rintro e w2 ⟨rfl, b2⟩
      have B := hide b2
      clear b2 q0 q1 q2 q3 q4
      have q1 : w2.cell? ⟨nb, 1, none⟩ = some (.string (BA o.name)) := ((unhide HBK).below (unhide B) (unhide HBK).lt).cell 1 rfl
      have q0 : w2.cell? ⟨nb, 0, none⟩ = some (.int .i64 o.kind) := ((unhide HBK).below (unhide B) (unhide HBK).lt).cell 0 rfl
      have q2 : w2.cell? ⟨nb, 2, none⟩ = some (.string (BA o.value)) := ((unhide HBK).below (unhide B) (unhide HBK).lt).cell 2 rfl
      have q3 : w2.cell? ⟨nb, 3, none⟩ = some (.int .i64 o.n) := ((unhide HBK).below (unhide B) (unhide HBK).lt).cell 3 rfl
      have q4 : w2.cell? ⟨nb, 4, none⟩ = some (.slice ad al cap) := ((unhide HBK).below (unhide B) (unhide HBK).lt).cell 4 rfl
      go_wp2_with fail
      refine (get_nil o.name w2).mono ?_
      rintro e w3 ⟨rfl, hw3⟩
      rw [show w3 = w2 from hw3]
      clear hw3
      go_wp2_with fail
      refine (param_nil (BA p) w2).mono ?_
      rintro e w3 ⟨rfl, hw3⟩
      rw [show w3 = w2 from hw3]
      clear hw3
      go_wp2_with fail
      refine (unhide HKD _ (unhide B)).mono ?_
      rintro e w4 ⟨rfl, b4⟩
      have B4 := hide b4
      clear b4 q0 q1 q2 q3 q4 B
      have B5 := B4
      clear B4
      obtain ⟨w5, hw5⟩ : ∃ w5, w5 = w4 := ⟨_, rfl⟩
      rw [← hw5] at B5 ⊢
      clear hw5
      go_wp2_with fail
      refine (all_nil w5).mono ?_
      rintro e w6 ⟨rfl, hw6⟩
      rw [show w6 = w5 from hw6]
      clear hw6
      go_wp2_with fail
      refine (env_nil w5).mono ?_
      rintro e w6 ⟨rfl, hw6⟩
      rw [show w6 = w5 from hw6]
      clear hw6
      go_wp2_with fail
      refine (args_nil w5).mono ?_
      rintro e w6 ⟨rfl, hw6⟩
      rw [show w6 = w5 from hw6]
      clear hw6
      go_wp2_with fail
      refine (status_nil w5).mono ?_
      rintro e w6 ⟨rfl, hw6⟩
      rw [show w6 = w5 from hw6]
      clear hw6
      go_wp2_with fail
      refine (copy_nil w5).mono ?_
      rintro e w6 ⟨rfl, hw6⟩
      rw [show w6 = w5 from hw6]
      clear hw6
      go_wp2_with fail
      refine (unhide HAW _ (unhide HWW _ (unhide B5))).mono ?_
      rintro e w7 ⟨rfl, b7⟩
      have B7 := hide b7
      clear b7
      go_wp2
      go_ret
      exact ⟨rfl, unhide B7⟩
    · subst h7
      rw [if_pos (.inr rfl)] at HNE
      obtain rfl := unhide HNE
      clear HNE HKR
      go_enter Tryd.func7, Tryd.ntmps7
      go_wp2_with fail
      rw [← unhide QW, ← unhide QW2, unhide QNC, ← unhide QNB]
      clear QW QW2 QNB QNC
      refine (unhide HFW).mono ?_
      rintro e w1 ⟨rfl, hw1⟩
      rw [show w1 = W2 from hw1]
      clear hw1
      have q0 : W2.cell? ⟨nb, 0, none⟩ = some (.int .i64 o.kind) := (unhide HBK).cell 0 rfl
      have q1 : W2.cell? ⟨nb, 1, none⟩ = some (.string (BA o.name)) := (unhide HBK).cell 1 rfl
      have q2 : W2.cell? ⟨nb, 2, none⟩ = some (.string (BA o.value)) := (unhide HBK).cell 2 rfl
      have q3 : W2.cell? ⟨nb, 3, none⟩ = some (.int .i64 o.n) := (unhide HBK).cell 3 rfl
      have q4 : W2.cell? ⟨nb, 4, none⟩ = some (.slice ad al cap) := (unhide HBK).cell 4 rfl
      go_wp2_with fail
      refine (unhide HDO _ (Below.refl _ _)).mono ?_
      rintro e w2 ⟨rfl, b2⟩
      have B := hide b2
      clear b2 q0 q1 q2 q3 q4
      have q1 : w2.cell? ⟨nb, 1, none⟩ = some (.string (BA o.name)) := ((unhide HBK).below (unhide B) (unhide HBK).lt).cell 1 rfl
      have q0 : w2.cell? ⟨nb, 0, none⟩ = some (.int .i64 o.kind) := ((unhide HBK).below (unhide B) (unhide HBK).lt).cell 0 rfl
      have q2 : w2.cell? ⟨nb, 2, none⟩ = some (.string (BA o.value)) := ((unhide HBK).below (unhide B) (unhide HBK).lt).cell 2 rfl
      have q3 : w2.cell? ⟨nb, 3, none⟩ = some (.int .i64 o.n) := ((unhide HBK).below (unhide B) (unhide HBK).lt).cell 3 rfl
      have q4 : w2.cell? ⟨nb, 4, none⟩ = some (.slice ad al cap) := ((unhide HBK).below (unhide B) (unhide HBK).lt).cell 4 rfl
      go_wp2_with fail
      refine (get_nil o.name w2).mono ?_
      rintro e w3 ⟨rfl, hw3⟩
      rw [show w3 = w2 from hw3]
      clear hw3
      go_wp2_with fail
      refine (param_nil (BA p) w2).mono ?_
      rintro e w3 ⟨rfl, hw3⟩
      rw [show w3 = w2 from hw3]
      clear hw3
      go_wp2_with fail
      refine (unhide HKD _ (unhide B)).mono ?_
      rintro e w4 ⟨rfl, b4⟩
      have B4 := hide b4
      clear b4 q0 q1 q2 q3 q4 B
      have q0 : w4.cell? ⟨nb, 0, none⟩ = some (.int .i64 o.kind) := ((unhide HBK).below (unhide B4) (unhide HBK).lt).cell 0 rfl
      have q1 : w4.cell? ⟨nb, 1, none⟩ = some (.string (BA o.name)) := ((unhide HBK).below (unhide B4) (unhide HBK).lt).cell 1 rfl
      have q2 : w4.cell? ⟨nb, 2, none⟩ = some (.string (BA o.value)) := ((unhide HBK).below (unhide B4) (unhide HBK).lt).cell 2 rfl
      have q3 : w4.cell? ⟨nb, 3, none⟩ = some (.int .i64 o.n) := ((unhide HBK).below (unhide B4) (unhide HBK).lt).cell 3 rfl
      have q4 : w4.cell? ⟨nb, 4, none⟩ = some (.slice ad al cap) := ((unhide HBK).below (unhide B4) (unhide HBK).lt).cell 4 rfl
      go_wp2_with fail
      refine (unhide HKD _ (unhide B4)).mono ?_
      rintro e w5 ⟨rfl, b5⟩
      have B5 := hide b5
      clear b5 q0 q1 q2 q3 q4 B4
      go_wp2_with fail
      refine (all_nil w5).mono ?_
      rintro e w6 ⟨rfl, hw6⟩
      rw [show w6 = w5 from hw6]
      clear hw6
      go_wp2_with fail
      refine (env_nil w5).mono ?_
      rintro e w6 ⟨rfl, hw6⟩
      rw [show w6 = w5 from hw6]
      clear hw6
      go_wp2_with fail
      refine (args_nil w5).mono ?_
      rintro e w6 ⟨rfl, hw6⟩
      rw [show w6 = w5 from hw6]
      clear hw6
      go_wp2_with fail
      refine (status_nil w5).mono ?_
      rintro e w6 ⟨rfl, hw6⟩
      rw [show w6 = w5 from hw6]
      clear hw6
      go_wp2_with fail
      refine (copy_nil w5).mono ?_
      rintro e w6 ⟨rfl, hw6⟩
      rw [show w6 = w5 from hw6]
      clear hw6
      go_wp2_with fail
      refine (unhide HAW _ (unhide HWW _ (unhide B5))).mono ?_
      rintro e w7 ⟨rfl, b7⟩
      have B7 := hide b7
      clear b7
      go_wp2
      go_ret
      exact ⟨rfl, unhide B7⟩
    · rw [if_neg (by omega)] at HNE
      obtain rfl := unhide HNE
      have g5 : (kd == 5) = false := by simpa using h5
      have g7 : (kd == 7) = false := by simpa using h7
      clear HNE HKR h5 h7
      go_enter Tryd.func7, Tryd.ntmps7
      go_wp2_with fail
      rw [← unhide QW, ← unhide QW2, unhide QNC, ← unhide QNB]
      clear QW QW2 QNB QNC
      refine (unhide HFW).mono ?_
      rintro e w1 ⟨rfl, hw1⟩
      rw [show w1 = W2 from hw1]
      clear hw1
      have q0 : W2.cell? ⟨nb, 0, none⟩ = some (.int .i64 o.kind) := (unhide HBK).cell 0 rfl
      have q1 : W2.cell? ⟨nb, 1, none⟩ = some (.string (BA o.name)) := (unhide HBK).cell 1 rfl
      have q2 : W2.cell? ⟨nb, 2, none⟩ = some (.string (BA o.value)) := (unhide HBK).cell 2 rfl
      have q3 : W2.cell? ⟨nb, 3, none⟩ = some (.int .i64 o.n) := (unhide HBK).cell 3 rfl
      have q4 : W2.cell? ⟨nb, 4, none⟩ = some (.slice ad al cap) := (unhide HBK).cell 4 rfl
      go_wp2_with fail
      refine (unhide HDO _ (Below.refl _ _)).mono ?_
      rintro e w2 ⟨rfl, b2⟩
      have B := hide b2
      clear b2 q0 q1 q2 q3 q4
      have q1 : w2.cell? ⟨nb, 1, none⟩ = some (.string (BA o.name)) := ((unhide HBK).below (unhide B) (unhide HBK).lt).cell 1 rfl
      have q0 : w2.cell? ⟨nb, 0, none⟩ = some (.int .i64 o.kind) := ((unhide HBK).below (unhide B) (unhide HBK).lt).cell 0 rfl
      have q2 : w2.cell? ⟨nb, 2, none⟩ = some (.string (BA o.value)) := ((unhide HBK).below (unhide B) (unhide HBK).lt).cell 2 rfl
      have q3 : w2.cell? ⟨nb, 3, none⟩ = some (.int .i64 o.n) := ((unhide HBK).below (unhide B) (unhide HBK).lt).cell 3 rfl
      have q4 : w2.cell? ⟨nb, 4, none⟩ = some (.slice ad al cap) := ((unhide HBK).below (unhide B) (unhide HBK).lt).cell 4 rfl
      go_wp2_with fail
      refine (get_nil o.name w2).mono ?_
      rintro e w3 ⟨rfl, hw3⟩
      rw [show w3 = w2 from hw3]
      clear hw3
      go_wp2_with fail
      refine (param_nil (BA p) w2).mono ?_
      rintro e w3 ⟨rfl, hw3⟩
      rw [show w3 = w2 from hw3]
      clear hw3
      go_wp2_with fail
      refine (unhide HKD _ (unhide B)).mono ?_
      rintro e w4 ⟨rfl, b4⟩
      have B4 := hide b4
      clear b4 q0 q1 q2 q3 q4 B
      have q0 : w4.cell? ⟨nb, 0, none⟩ = some (.int .i64 o.kind) := ((unhide HBK).below (unhide B4) (unhide HBK).lt).cell 0 rfl
      have q1 : w4.cell? ⟨nb, 1, none⟩ = some (.string (BA o.name)) := ((unhide HBK).below (unhide B4) (unhide HBK).lt).cell 1 rfl
      have q2 : w4.cell? ⟨nb, 2, none⟩ = some (.string (BA o.value)) := ((unhide HBK).below (unhide B4) (unhide HBK).lt).cell 2 rfl
      have q3 : w4.cell? ⟨nb, 3, none⟩ = some (.int .i64 o.n) := ((unhide HBK).below (unhide B4) (unhide HBK).lt).cell 3 rfl
      have q4 : w4.cell? ⟨nb, 4, none⟩ = some (.slice ad al cap) := ((unhide HBK).below (unhide B4) (unhide HBK).lt).cell 4 rfl
      go_wp2_with fail
      refine (unhide HKD _ (unhide B4)).mono ?_
      rintro e w5 ⟨rfl, b5⟩
      have B5 := hide b5
      clear b5 q0 q1 q2 q3 q4 B4
      go_wp2_with fail
      refine (all_nil w5).mono ?_
      rintro e w6 ⟨rfl, hw6⟩
      rw [show w6 = w5 from hw6]
      clear hw6
      go_wp2_with fail
      refine (env_nil w5).mono ?_
      rintro e w6 ⟨rfl, hw6⟩
      rw [show w6 = w5 from hw6]
      clear hw6
      go_wp2_with fail
      refine (args_nil w5).mono ?_
      rintro e w6 ⟨rfl, hw6⟩
      rw [show w6 = w5 from hw6]
      clear hw6
      go_wp2_with fail
      refine (status_nil w5).mono ?_
      rintro e w6 ⟨rfl, hw6⟩
      rw [show w6 = w5 from hw6]
      clear hw6
      go_wp2_with fail
      refine (copy_nil w5).mono ?_
      rintro e w6 ⟨rfl, hw6⟩
      rw [show w6 = w5 from hw6]
      clear hw6
      go_wp2_with fail
      refine (unhide HAW _ (unhide HWW _ (unhide B5))).mono ?_
      rintro e w7 ⟨rfl, b7⟩
      have B7 := hide b7
      clear b7
      go_wp2
      go_ret
      exact ⟨rfl, unhide B7⟩

end Go.Proofs.YtbcbnoeplapblaaDoor

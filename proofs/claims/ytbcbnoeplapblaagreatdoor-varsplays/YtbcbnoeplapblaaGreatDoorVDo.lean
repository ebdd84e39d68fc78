/-
  The law's do: a call of any kind.
-/
import Derived.Test.YtbcbnoeplapblaaGreatDoorVSet
import Derived.Test.YtbcbnoeplapblaaGreatDoorVMark
import Derived.Test.YtbcbnoeplapblaaGreatDoorVShift
namespace Go.Proofs.YtbcbnoeplapblaaGreatDoor
open Go.RowKit Go.Maps

/-- A call as a value. -/
def opV (o : OpP) (v : Value) : Value := .agg #[.int .i64 o.kind, .string (BA o.name), .string (BA o.value), .int .i64 o.n, v]
theorem knd_eq (k : Int) : kndI k = (k.tmod 8 + 8) % 8 := by
  unfold kndI
  have h1 : -8 < k.tmod 8 := by have := Int.lt_tmod_of_pos k (b := 8) (by decide); omega
  exact Int.tmod_eq_emod_of_nonneg (by omega)
theorem knd_range (k : Int) : 0 ≤ kndI k ∧ kndI k ≤ 7 := by
  rw [knd_eq]
  omega
set_option maxRecDepth 20000 in
set_option maxHeartbeats 4000000 in
theorem kind_any (k n : Int) (a b : ByteArray) (v : Value) (w : World) : Calls Tryz.prog 25 #[.agg #[.int .i64 k, .string a, .string b, .int .i64 n, v]] w fun e w' => e = .returned (.int .i64 (kndI k)) ∧ Below w.heap.size w w' := by
  have h1 : -8 < k.tmod 8 := by have := Int.lt_tmod_of_pos k (b := 8) (by decide); omega
  have h2 : k.tmod 8 < 8 := Int.tmod_lt_of_pos k (by decide)
  go_enter Tryz.func25, Tryz.ntmps25
  go_wp2
  go_ret
  exact ⟨ret_int (knd_eq k).symm, (Below.refl _ _).alloc (Nat.le_refl _) _⟩
/-- What a case of do wants: the contract of its call. -/
def DoEnd (s : VSt × Int) (b : Nat) (X : Nat → Prop) (w : World) (e : Ending) (w' : World) : Prop := e = .returned (.int .i64 s.2) ∧ VAt w' b X s.1 ∧ GrownS w w' X
set_option maxRecDepth 20000 in
set_option maxHeartbeats 4000000 in
theorem do_uns (b : Nat) (X : Nat → Prop) (k n : Int) (na va : ByteArray) (ad : Option Addr) (len cap : Nat) (R : VSt × Int) (w : World) (hk : kndI k = 2)
    (HC : Hid (∀ W, Below w.heap.size w W → Calls Tryz.prog 26 #[.pointer (some ⟨b, 0, none⟩), .string na] W fun e w' => e = .returned (.int .i64 R.2) ∧ VAt w' b X R.1 ∧ GrownS W w' X)) :
    Calls Tryz.prog 8 #[.pointer (some ⟨b, 0, none⟩), .agg #[.int .i64 k, .string na, .string va, .int .i64 n, .slice ad len cap]] w fun e w' => DoEnd R b X w e w' := by
  have HK := hide (fun W => kind_any k n na va (.slice ad len cap) W)
  rw [hk] at HK
  clear hk
  go_enter Tryz.func8, Tryz.ntmps8
  go_wp2_with fail
  refine (unhide HK _).mono ?_
  rintro e w1 ⟨rfl, b1⟩
  have hnew := (Blk.new w 36 #[.int .i64 k, .string na, .string va, .int .i64 n, .slice ad len cap]).below b1 (by simp)
  have HB : Hid (Below w.heap.size w w1) := hide (((Below.refl _ w).alloc (Nat.le_refl _) _).trans (b1.mono (by simp)))
  obtain ⟨nb, hnb⟩ : ∃ nb, nb = w.heap.size := ⟨_, rfl⟩
  rw [← hnb] at hnew
  rw [← hnb]
  have e1 : w1.cell? ⟨nb, 1, none⟩ = some (.string na) := hnew.cell 1 rfl
  have e2 : w1.cell? ⟨nb, 2, none⟩ = some (.string va) := hnew.cell 2 rfl
  have e3 : w1.cell? ⟨nb, 3, none⟩ = some (.int .i64 n) := hnew.cell 3 rfl
  have e4 : w1.cell? ⟨nb, 4, none⟩ = some (.slice ad len cap) := hnew.cell 4 rfl
  clear hnew b1 hnb HK
  go_wp2_with fail
  refine (unhide HC _ (unhide HB)).mono ?_
  rintro e w2 ⟨rfl, hv, hg⟩
  have HEND := hide (And.intro hv ((grownS_of_below (unhide HB)).trans hg))
  clear hv hg HC e1 e2 e3 e4
  go_wp2
  go_ret
  exact ⟨rfl, unhide HEND⟩
set_option maxRecDepth 20000 in
set_option maxHeartbeats 4000000 in
theorem do_exp (b : Nat) (X : Nat → Prop) (k n : Int) (na va : ByteArray) (ad : Option Addr) (len cap : Nat) (R : VSt × Int) (w : World) (hk : kndI k = 3)
    (HC : Hid (∀ W, Below w.heap.size w W → Calls Tryz.prog 27 #[.pointer (some ⟨b, 0, none⟩), .string na] W fun e w' => e = .returned (.int .i64 R.2) ∧ VAt w' b X R.1 ∧ GrownS W w' X)) :
    Calls Tryz.prog 8 #[.pointer (some ⟨b, 0, none⟩), .agg #[.int .i64 k, .string na, .string va, .int .i64 n, .slice ad len cap]] w fun e w' => DoEnd R b X w e w' := by
  have HK := hide (fun W => kind_any k n na va (.slice ad len cap) W)
  rw [hk] at HK
  clear hk
  go_enter Tryz.func8, Tryz.ntmps8
  go_wp2_with fail
  refine (unhide HK _).mono ?_
  rintro e w1 ⟨rfl, b1⟩
  have hnew := (Blk.new w 36 #[.int .i64 k, .string na, .string va, .int .i64 n, .slice ad len cap]).below b1 (by simp)
  have HB : Hid (Below w.heap.size w w1) := hide (((Below.refl _ w).alloc (Nat.le_refl _) _).trans (b1.mono (by simp)))
  obtain ⟨nb, hnb⟩ : ∃ nb, nb = w.heap.size := ⟨_, rfl⟩
  rw [← hnb] at hnew
  rw [← hnb]
  have e1 : w1.cell? ⟨nb, 1, none⟩ = some (.string na) := hnew.cell 1 rfl
  have e2 : w1.cell? ⟨nb, 2, none⟩ = some (.string va) := hnew.cell 2 rfl
  have e3 : w1.cell? ⟨nb, 3, none⟩ = some (.int .i64 n) := hnew.cell 3 rfl
  have e4 : w1.cell? ⟨nb, 4, none⟩ = some (.slice ad len cap) := hnew.cell 4 rfl
  clear hnew b1 hnb HK
  go_wp2_with fail
  refine (unhide HC _ (unhide HB)).mono ?_
  rintro e w2 ⟨rfl, hv, hg⟩
  have HEND := hide (And.intro hv ((grownS_of_below (unhide HB)).trans hg))
  clear hv hg HC e1 e2 e3 e4
  go_wp2
  go_ret
  exact ⟨rfl, unhide HEND⟩
set_option maxRecDepth 20000 in
set_option maxHeartbeats 4000000 in
theorem do_rdo (b : Nat) (X : Nat → Prop) (k n : Int) (na va : ByteArray) (ad : Option Addr) (len cap : Nat) (R : VSt × Int) (w : World) (hk : kndI k = 4)
    (HC : Hid (∀ W, Below w.heap.size w W → Calls Tryz.prog 22 #[.pointer (some ⟨b, 0, none⟩), .string na] W fun e w' => e = .returned (.int .i64 R.2) ∧ VAt w' b X R.1 ∧ GrownS W w' X)) :
    Calls Tryz.prog 8 #[.pointer (some ⟨b, 0, none⟩), .agg #[.int .i64 k, .string na, .string va, .int .i64 n, .slice ad len cap]] w fun e w' => DoEnd R b X w e w' := by
  have HK := hide (fun W => kind_any k n na va (.slice ad len cap) W)
  rw [hk] at HK
  clear hk
  go_enter Tryz.func8, Tryz.ntmps8
  go_wp2_with fail
  refine (unhide HK _).mono ?_
  rintro e w1 ⟨rfl, b1⟩
  have hnew := (Blk.new w 36 #[.int .i64 k, .string na, .string va, .int .i64 n, .slice ad len cap]).below b1 (by simp)
  have HB : Hid (Below w.heap.size w w1) := hide (((Below.refl _ w).alloc (Nat.le_refl _) _).trans (b1.mono (by simp)))
  obtain ⟨nb, hnb⟩ : ∃ nb, nb = w.heap.size := ⟨_, rfl⟩
  rw [← hnb] at hnew
  rw [← hnb]
  have e1 : w1.cell? ⟨nb, 1, none⟩ = some (.string na) := hnew.cell 1 rfl
  have e2 : w1.cell? ⟨nb, 2, none⟩ = some (.string va) := hnew.cell 2 rfl
  have e3 : w1.cell? ⟨nb, 3, none⟩ = some (.int .i64 n) := hnew.cell 3 rfl
  have e4 : w1.cell? ⟨nb, 4, none⟩ = some (.slice ad len cap) := hnew.cell 4 rfl
  clear hnew b1 hnb HK
  go_wp2_with fail
  refine (unhide HC _ (unhide HB)).mono ?_
  rintro e w2 ⟨rfl, hv, hg⟩
  have HEND := hide (And.intro hv ((grownS_of_below (unhide HB)).trans hg))
  clear hv hg HC e1 e2 e3 e4
  go_wp2
  go_ret
  exact ⟨rfl, unhide HEND⟩
set_option maxRecDepth 20000 in
set_option maxHeartbeats 4000000 in
theorem do_arg (b : Nat) (X : Nat → Prop) (k n : Int) (na va : ByteArray) (ad : Option Addr) (len cap : Nat) (R : VSt × Int) (w : World) (hk : kndI k = 5) (hR : R.2 = 0)
    (HC : Hid (∀ W, Below w.heap.size w W → Calls Tryz.prog 28 #[.pointer (some ⟨b, 0, none⟩), .slice ad len cap] W fun e w' => e = .returned (.tuple #[]) ∧ VAt w' b X R.1 ∧ GrownS W w' X)) :
    Calls Tryz.prog 8 #[.pointer (some ⟨b, 0, none⟩), .agg #[.int .i64 k, .string na, .string va, .int .i64 n, .slice ad len cap]] w fun e w' => DoEnd R b X w e w' := by
  have HK := hide (fun W => kind_any k n na va (.slice ad len cap) W)
  rw [hk] at HK
  have HR := hide hR
  clear hR
  clear hk
  go_enter Tryz.func8, Tryz.ntmps8
  go_wp2_with fail
  refine (unhide HK _).mono ?_
  rintro e w1 ⟨rfl, b1⟩
  have hnew := (Blk.new w 36 #[.int .i64 k, .string na, .string va, .int .i64 n, .slice ad len cap]).below b1 (by simp)
  have HB : Hid (Below w.heap.size w w1) := hide (((Below.refl _ w).alloc (Nat.le_refl _) _).trans (b1.mono (by simp)))
  obtain ⟨nb, hnb⟩ : ∃ nb, nb = w.heap.size := ⟨_, rfl⟩
  rw [← hnb] at hnew
  rw [← hnb]
  have e1 : w1.cell? ⟨nb, 1, none⟩ = some (.string na) := hnew.cell 1 rfl
  have e2 : w1.cell? ⟨nb, 2, none⟩ = some (.string va) := hnew.cell 2 rfl
  have e3 : w1.cell? ⟨nb, 3, none⟩ = some (.int .i64 n) := hnew.cell 3 rfl
  have e4 : w1.cell? ⟨nb, 4, none⟩ = some (.slice ad len cap) := hnew.cell 4 rfl
  clear hnew b1 hnb HK
  go_wp2_with fail
  refine (unhide HC _ (unhide HB)).mono ?_
  rintro e w2 ⟨rfl, hv, hg⟩
  have HEND := hide (And.intro hv ((grownS_of_below (unhide HB)).trans hg))
  clear hv hg HC e1 e2 e3 e4
  go_wp2
  go_ret
  exact ⟨by rw [unhide HR]; rfl, unhide HEND⟩
set_option maxRecDepth 20000 in
set_option maxHeartbeats 4000000 in
theorem do_shf (b : Nat) (X : Nat → Prop) (k n : Int) (na va : ByteArray) (ad : Option Addr) (len cap : Nat) (R : VSt × Int) (w : World) (hk : kndI k = 6)
    (HC : Hid (∀ W, Below w.heap.size w W → Calls Tryz.prog 23 #[.pointer (some ⟨b, 0, none⟩), .int .i64 n] W fun e w' => e = .returned (.int .i64 R.2) ∧ VAt w' b X R.1 ∧ GrownS W w' X)) :
    Calls Tryz.prog 8 #[.pointer (some ⟨b, 0, none⟩), .agg #[.int .i64 k, .string na, .string va, .int .i64 n, .slice ad len cap]] w fun e w' => DoEnd R b X w e w' := by
  have HK := hide (fun W => kind_any k n na va (.slice ad len cap) W)
  rw [hk] at HK
  clear hk
  go_enter Tryz.func8, Tryz.ntmps8
  go_wp2_with fail
  refine (unhide HK _).mono ?_
  rintro e w1 ⟨rfl, b1⟩
  have hnew := (Blk.new w 36 #[.int .i64 k, .string na, .string va, .int .i64 n, .slice ad len cap]).below b1 (by simp)
  have HB : Hid (Below w.heap.size w w1) := hide (((Below.refl _ w).alloc (Nat.le_refl _) _).trans (b1.mono (by simp)))
  obtain ⟨nb, hnb⟩ : ∃ nb, nb = w.heap.size := ⟨_, rfl⟩
  rw [← hnb] at hnew
  rw [← hnb]
  have e1 : w1.cell? ⟨nb, 1, none⟩ = some (.string na) := hnew.cell 1 rfl
  have e2 : w1.cell? ⟨nb, 2, none⟩ = some (.string va) := hnew.cell 2 rfl
  have e3 : w1.cell? ⟨nb, 3, none⟩ = some (.int .i64 n) := hnew.cell 3 rfl
  have e4 : w1.cell? ⟨nb, 4, none⟩ = some (.slice ad len cap) := hnew.cell 4 rfl
  clear hnew b1 hnb HK
  go_wp2_with fail
  refine (unhide HC _ (unhide HB)).mono ?_
  rintro e w2 ⟨rfl, hv, hg⟩
  have HEND := hide (And.intro hv ((grownS_of_below (unhide HB)).trans hg))
  clear hv hg HC e1 e2 e3 e4
  go_wp2
  go_ret
  exact ⟨rfl, unhide HEND⟩
set_option maxRecDepth 20000 in
set_option maxHeartbeats 4000000 in
theorem do_sts (b : Nat) (X : Nat → Prop) (k n : Int) (na va : ByteArray) (ad : Option Addr) (len cap : Nat) (R : VSt × Int) (w : World) (hk : kndI k = 7) (hR : R.2 = 0)
    (HC : Hid (∀ W, Below w.heap.size w W → Calls Tryz.prog 29 #[.pointer (some ⟨b, 0, none⟩), .int .i64 n] W fun e w' => e = .returned (.tuple #[]) ∧ VAt w' b X R.1 ∧ GrownS W w' X)) :
    Calls Tryz.prog 8 #[.pointer (some ⟨b, 0, none⟩), .agg #[.int .i64 k, .string na, .string va, .int .i64 n, .slice ad len cap]] w fun e w' => DoEnd R b X w e w' := by
  have HK := hide (fun W => kind_any k n na va (.slice ad len cap) W)
  rw [hk] at HK
  have HR := hide hR
  clear hR
  clear hk
  go_enter Tryz.func8, Tryz.ntmps8
  go_wp2_with fail
  refine (unhide HK _).mono ?_
  rintro e w1 ⟨rfl, b1⟩
  have hnew := (Blk.new w 36 #[.int .i64 k, .string na, .string va, .int .i64 n, .slice ad len cap]).below b1 (by simp)
  have HB : Hid (Below w.heap.size w w1) := hide (((Below.refl _ w).alloc (Nat.le_refl _) _).trans (b1.mono (by simp)))
  obtain ⟨nb, hnb⟩ : ∃ nb, nb = w.heap.size := ⟨_, rfl⟩
  rw [← hnb] at hnew
  rw [← hnb]
  have e1 : w1.cell? ⟨nb, 1, none⟩ = some (.string na) := hnew.cell 1 rfl
  have e2 : w1.cell? ⟨nb, 2, none⟩ = some (.string va) := hnew.cell 2 rfl
  have e3 : w1.cell? ⟨nb, 3, none⟩ = some (.int .i64 n) := hnew.cell 3 rfl
  have e4 : w1.cell? ⟨nb, 4, none⟩ = some (.slice ad len cap) := hnew.cell 4 rfl
  clear hnew b1 hnb HK
  go_wp2_with fail
  refine (unhide HC _ (unhide HB)).mono ?_
  rintro e w2 ⟨rfl, hv, hg⟩
  have HEND := hide (And.intro hv ((grownS_of_below (unhide HB)).trans hg))
  clear hv hg HC e1 e2 e3 e4
  go_wp2
  go_ret
  exact ⟨by rw [unhide HR]; rfl, unhide HEND⟩
set_option maxRecDepth 20000 in
set_option maxHeartbeats 4000000 in
theorem do_se0 (b : Nat) (X : Nat → Prop) (k n : Int) (na va : ByteArray) (ad : Option Addr) (len cap : Nat) (R : VSt × Int) (w : World) (hk : kndI k = 0)
    (HC : Hid (∀ W, Below w.heap.size w W → Calls Tryz.prog 21 #[.pointer (some ⟨b, 0, none⟩), .string na, .string va] W fun e w' => e = .returned (.int .i64 R.2) ∧ VAt w' b X R.1 ∧ GrownS W w' X)) :
    Calls Tryz.prog 8 #[.pointer (some ⟨b, 0, none⟩), .agg #[.int .i64 k, .string na, .string va, .int .i64 n, .slice ad len cap]] w fun e w' => DoEnd R b X w e w' := by
  have HK := hide (fun W => kind_any k n na va (.slice ad len cap) W)
  rw [hk] at HK
  clear hk
  go_enter Tryz.func8, Tryz.ntmps8
  go_wp2_with fail
  refine (unhide HK _).mono ?_
  rintro e w1 ⟨rfl, b1⟩
  have hnew := (Blk.new w 36 #[.int .i64 k, .string na, .string va, .int .i64 n, .slice ad len cap]).below b1 (by simp)
  have HB : Hid (Below w.heap.size w w1) := hide (((Below.refl _ w).alloc (Nat.le_refl _) _).trans (b1.mono (by simp)))
  obtain ⟨nb, hnb⟩ : ∃ nb, nb = w.heap.size := ⟨_, rfl⟩
  rw [← hnb] at hnew
  rw [← hnb]
  have e1 : w1.cell? ⟨nb, 1, none⟩ = some (.string na) := hnew.cell 1 rfl
  have e2 : w1.cell? ⟨nb, 2, none⟩ = some (.string va) := hnew.cell 2 rfl
  have e3 : w1.cell? ⟨nb, 3, none⟩ = some (.int .i64 n) := hnew.cell 3 rfl
  have e4 : w1.cell? ⟨nb, 4, none⟩ = some (.slice ad len cap) := hnew.cell 4 rfl
  clear hnew b1 hnb HK
  go_wp2_with fail
  refine (unhide HC _ (unhide HB)).mono ?_
  rintro e w2 ⟨rfl, hv, hg⟩
  have HEND := hide (And.intro hv ((grownS_of_below (unhide HB)).trans hg))
  clear hv hg HC e1 e2 e3 e4
  go_wp2
  go_ret
  exact ⟨rfl, unhide HEND⟩
set_option maxRecDepth 20000 in
set_option maxHeartbeats 4000000 in
theorem do_se1 (b : Nat) (X : Nat → Prop) (k n : Int) (na va : ByteArray) (ad : Option Addr) (len cap : Nat) (R : VSt × Int) (w : World) (hk : kndI k = 1)
    (HC : Hid (∀ W, Below w.heap.size w W → Calls Tryz.prog 21 #[.pointer (some ⟨b, 0, none⟩), .string na, .string va] W fun e w' => e = .returned (.int .i64 R.2) ∧ VAt w' b X R.1 ∧ GrownS W w' X)) :
    Calls Tryz.prog 8 #[.pointer (some ⟨b, 0, none⟩), .agg #[.int .i64 k, .string na, .string va, .int .i64 n, .slice ad len cap]] w fun e w' => DoEnd R b X w e w' := by
  have HK := hide (fun W => kind_any k n na va (.slice ad len cap) W)
  rw [hk] at HK
  clear hk
  go_enter Tryz.func8, Tryz.ntmps8
  go_wp2_with fail
  refine (unhide HK _).mono ?_
  rintro e w1 ⟨rfl, b1⟩
  have hnew := (Blk.new w 36 #[.int .i64 k, .string na, .string va, .int .i64 n, .slice ad len cap]).below b1 (by simp)
  have HB : Hid (Below w.heap.size w w1) := hide (((Below.refl _ w).alloc (Nat.le_refl _) _).trans (b1.mono (by simp)))
  obtain ⟨nb, hnb⟩ : ∃ nb, nb = w.heap.size := ⟨_, rfl⟩
  rw [← hnb] at hnew
  rw [← hnb]
  have e1 : w1.cell? ⟨nb, 1, none⟩ = some (.string na) := hnew.cell 1 rfl
  have e2 : w1.cell? ⟨nb, 2, none⟩ = some (.string va) := hnew.cell 2 rfl
  have e3 : w1.cell? ⟨nb, 3, none⟩ = some (.int .i64 n) := hnew.cell 3 rfl
  have e4 : w1.cell? ⟨nb, 4, none⟩ = some (.slice ad len cap) := hnew.cell 4 rfl
  clear hnew b1 hnb HK
  go_wp2_with fail
  refine (unhide HC _ (unhide HB)).mono ?_
  rintro e w2 ⟨rfl, hv, hg⟩
  have HEND := hide (And.intro hv ((grownS_of_below (unhide HB)).trans hg))
  clear hv hg HC e1 e2 e3 e4
  go_wp2
  go_ret
  exact ⟨rfl, unhide HEND⟩
theorem do_any (b : Nat) (X : Nat → Prop) (s : VSt) (o : OpP) (v : Value) (w : World) (hX : ∀ k, w.heap.size ≤ k → X k) (h : VAt w b X s) (hv : AIn w v o.args) (ho : o.args.length ≤ 1000000) (hn : o.name.length ≤ 100000) (hL : s.L.length ≤ 1000) (hl : s.args.length ≤ 1000000) :
    Calls Tryz.prog 8 #[.pointer (some ⟨b, 0, none⟩), opV o v] w fun e w' => DoEnd (stepS s o) b X w e w' := by
  obtain ⟨ad, cap, hvv, _⟩ := id hv
  have hr := knd_range o.kind
  have hXX : ∀ W, Below w.heap.size w W → ∀ k, W.heap.size ≤ k → X k := fun W hW k hk => hX k (Nat.le_trans hW.size hk)
  unfold opV
  unfold stepS
  by_cases h2 : kndI o.kind = 2
  · rw [if_pos h2, hvv]
    exact do_uns b X _ _ _ _ _ _ _ _ w h2 (hide (fun W hW => unset_any b X s o.name W (h.below hW) hn))
  rw [if_neg h2]
  by_cases h3 : kndI o.kind = 3
  · rw [if_pos h3, hvv]
    exact do_exp b X _ _ _ _ _ _ _ _ w h3 (hide (fun W hW => export_any b X s o.name W (hXX W hW) (h.below hW) hn hL))
  rw [if_neg h3]
  by_cases h4 : kndI o.kind = 4
  · rw [if_pos h4, hvv]
    exact do_rdo b X _ _ _ _ _ _ _ _ w h4 (hide (fun W hW => readonly_any b X s o.name W (hXX W hW) (h.below hW) hn hL))
  rw [if_neg h4]
  by_cases h5 : kndI o.kind = 5
  · rw [if_pos h5]
    have := fun W hW => setArgs_any b X s v o.args W (hXX W hW) (h.below hW) (hv.below hW) ho
    rw [hvv] at this ⊢
    exact do_arg b X _ _ _ _ _ _ _ ({ s with args := o.args }, 0) w h5 rfl (hide this)
  rw [if_neg h5]
  by_cases h6 : kndI o.kind = 6
  · rw [if_pos h6, hvv]
    exact do_shf b X _ _ _ _ _ _ _ _ w h6 (hide (fun W hW => shift_any b X s o.n W (h.below hW) hl))
  rw [if_neg h6]
  by_cases h7 : kndI o.kind = 7
  · rw [if_pos h7, hvv]
    exact do_sts b X _ _ _ _ _ _ _ ({ s with st := o.n }, 0) w h7 rfl (hide (fun W hW => setStatus_any b X s o.n W (h.below hW)))
  rw [if_neg h7, hvv]
  by_cases h0 : kndI o.kind = 0
  · exact do_se0 b X _ _ _ _ _ _ _ _ w h0 (hide (fun W hW => set_any b X s o.name o.value W (hXX W hW) (h.below hW) hn hL))
  · exact do_se1 b X _ _ _ _ _ _ _ _ w (by omega) (hide (fun W hW => set_any b X s o.name o.value W (hXX W hW) (h.below hW) hn hL))

end Go.Proofs.YtbcbnoeplapblaaGreatDoor

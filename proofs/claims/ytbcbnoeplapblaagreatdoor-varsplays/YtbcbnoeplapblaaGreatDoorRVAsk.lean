/-
  The law's asked: a call of any kind, by the document.
-/
import Derived.Test.YtbcbnoeplapblaaGreatDoorRVOps
import Derived.Test.YtbcbnoeplapblaaGreatDoorVDo
namespace Go.Proofs.YtbcbnoeplapblaaGreatDoor
open Go.RowKit Go.Maps

def AskEnd (s : VSt × Int) (b : Nat) (Y : Nat → Prop) (w0 w : World) (e : Ending) (w' : World) : Prop := e = .returned (.int .i64 s.2) ∧ RAt w0 w' b Y s.1 ∧ GrownS w w' (fun k => k = b)
set_option maxRecDepth 20000 in
set_option maxHeartbeats 4000000 in
theorem ask_uns (w0 : World) (b : Nat) (Y : Nat → Prop) (k n : Int) (na va : ByteArray) (ad : Option Addr) (len cap : Nat) (R : VSt × Int) (w : World) (hk : kndI k = 2)
    (HC : Hid (∀ W, Below w.heap.size w W → Calls Tryz.prog 30 #[.pointer (some ⟨b, 0, none⟩), .string na] W fun e w' => e = .returned (.int .i64 R.2) ∧ RAt w0 w' b Y R.1 ∧ GrownS W w' (fun k => k = b))) :
    Calls Tryz.prog 9 #[.pointer (some ⟨b, 0, none⟩), .agg #[.int .i64 k, .string na, .string va, .int .i64 n, .slice ad len cap]] w fun e w' => AskEnd R b Y w0 w e w' := by
  have HK := hide (fun W => kind_any k n na va (.slice ad len cap) W)
  rw [hk] at HK
  clear hk
  go_enter Tryz.func9, Tryz.ntmps9
  go_wp2_with fail
  refine (unhide HK _).mono ?_
  rintro e w1 ⟨rfl, b1⟩
  have hnew := (Blk.new w 36 #[.int .i64 k, .string na, .string va, .int .i64 n, .slice ad len cap]).below b1 (by simp)
  have HB : Hid (Below w.heap.size w w1) := hide (((Below.refl _ w).alloc (Nat.le_refl _) _).trans (b1.mono (by simp)))
  obtain ⟨nb, hnb⟩ : ∃ nb, nb = w.heap.size := ⟨_, rfl⟩
  rw [← hnb] at hnew
  rw [← hnb]
  have e1 : w1.cell? ⟨nb, 1, none⟩ = some (.string na) := hnew.cell 1 rfl
  have e2 : w1.cell? ⟨nb, 2, none⟩ = some (.string va) := hnew.cell 2 rfl
  have e3 : w1.cell? ⟨nb, 3, none⟩ = some (.int .i64 n) := hnew.cell 3 rfl
  have e4 : w1.cell? ⟨nb, 4, none⟩ = some (.slice ad len cap) := hnew.cell 4 rfl
  clear hnew b1 hnb HK
  go_wp2_with fail
  refine (unhide HC _ (unhide HB)).mono ?_
  rintro e w2 ⟨rfl, hv, hg⟩
  have HEND := hide (And.intro hv ((grownS_of_below (unhide HB)).trans hg))
  clear hv hg HC e1 e2 e3 e4
  go_wp2
  go_ret
  exact ⟨rfl, unhide HEND⟩
set_option maxRecDepth 20000 in
set_option maxHeartbeats 4000000 in
theorem ask_exp (w0 : World) (b : Nat) (Y : Nat → Prop) (k n : Int) (na va : ByteArray) (ad : Option Addr) (len cap : Nat) (R : VSt × Int) (w : World) (hk : kndI k = 3)
    (HC : Hid (∀ W, Below w.heap.size w W → Calls Tryz.prog 31 #[.pointer (some ⟨b, 0, none⟩), .string na, .bool false] W fun e w' => e = .returned (.int .i64 R.2) ∧ RAt w0 w' b Y R.1 ∧ GrownS W w' (fun k => k = b))) :
    Calls Tryz.prog 9 #[.pointer (some ⟨b, 0, none⟩), .agg #[.int .i64 k, .string na, .string va, .int .i64 n, .slice ad len cap]] w fun e w' => AskEnd R b Y w0 w e w' := by
  have HK := hide (fun W => kind_any k n na va (.slice ad len cap) W)
  rw [hk] at HK
  clear hk
  go_enter Tryz.func9, Tryz.ntmps9
  go_wp2_with fail
  refine (unhide HK _).mono ?_
  rintro e w1 ⟨rfl, b1⟩
  have hnew := (Blk.new w 36 #[.int .i64 k, .string na, .string va, .int .i64 n, .slice ad len cap]).below b1 (by simp)
  have HB : Hid (Below w.heap.size w w1) := hide (((Below.refl _ w).alloc (Nat.le_refl _) _).trans (b1.mono (by simp)))
  obtain ⟨nb, hnb⟩ : ∃ nb, nb = w.heap.size := ⟨_, rfl⟩
  rw [← hnb] at hnew
  rw [← hnb]
  have e1 : w1.cell? ⟨nb, 1, none⟩ = some (.string na) := hnew.cell 1 rfl
  have e2 : w1.cell? ⟨nb, 2, none⟩ = some (.string va) := hnew.cell 2 rfl
  have e3 : w1.cell? ⟨nb, 3, none⟩ = some (.int .i64 n) := hnew.cell 3 rfl
  have e4 : w1.cell? ⟨nb, 4, none⟩ = some (.slice ad len cap) := hnew.cell 4 rfl
  clear hnew b1 hnb HK
  go_wp2_with fail
  refine (unhide HC _ (unhide HB)).mono ?_
  rintro e w2 ⟨rfl, hv, hg⟩
  have HEND := hide (And.intro hv ((grownS_of_below (unhide HB)).trans hg))
  clear hv hg HC e1 e2 e3 e4
  go_wp2
  go_ret
  exact ⟨rfl, unhide HEND⟩
set_option maxRecDepth 20000 in
set_option maxHeartbeats 4000000 in
theorem ask_rdo (w0 : World) (b : Nat) (Y : Nat → Prop) (k n : Int) (na va : ByteArray) (ad : Option Addr) (len cap : Nat) (R : VSt × Int) (w : World) (hk : kndI k = 4)
    (HC : Hid (∀ W, Below w.heap.size w W → Calls Tryz.prog 31 #[.pointer (some ⟨b, 0, none⟩), .string na, .bool true] W fun e w' => e = .returned (.int .i64 R.2) ∧ RAt w0 w' b Y R.1 ∧ GrownS W w' (fun k => k = b))) :
    Calls Tryz.prog 9 #[.pointer (some ⟨b, 0, none⟩), .agg #[.int .i64 k, .string na, .string va, .int .i64 n, .slice ad len cap]] w fun e w' => AskEnd R b Y w0 w e w' := by
  have HK := hide (fun W => kind_any k n na va (.slice ad len cap) W)
  rw [hk] at HK
  clear hk
  go_enter Tryz.func9, Tryz.ntmps9
  go_wp2_with fail
  refine (unhide HK _).mono ?_
  rintro e w1 ⟨rfl, b1⟩
  have hnew := (Blk.new w 36 #[.int .i64 k, .string na, .string va, .int .i64 n, .slice ad len cap]).below b1 (by simp)
  have HB : Hid (Below w.heap.size w w1) := hide (((Below.refl _ w).alloc (Nat.le_refl _) _).trans (b1.mono (by simp)))
  obtain ⟨nb, hnb⟩ : ∃ nb, nb = w.heap.size := ⟨_, rfl⟩
  rw [← hnb] at hnew
  rw [← hnb]
  have e1 : w1.cell? ⟨nb, 1, none⟩ = some (.string na) := hnew.cell 1 rfl
  have e2 : w1.cell? ⟨nb, 2, none⟩ = some (.string va) := hnew.cell 2 rfl
  have e3 : w1.cell? ⟨nb, 3, none⟩ = some (.int .i64 n) := hnew.cell 3 rfl
  have e4 : w1.cell? ⟨nb, 4, none⟩ = some (.slice ad len cap) := hnew.cell 4 rfl
  clear hnew b1 hnb HK
  go_wp2_with fail
  refine (unhide HC _ (unhide HB)).mono ?_
  rintro e w2 ⟨rfl, hv, hg⟩
  have HEND := hide (And.intro hv ((grownS_of_below (unhide HB)).trans hg))
  clear hv hg HC e1 e2 e3 e4
  go_wp2
  go_ret
  exact ⟨rfl, unhide HEND⟩
set_option maxRecDepth 20000 in
set_option maxHeartbeats 4000000 in
theorem ask_shf (w0 : World) (b : Nat) (Y : Nat → Prop) (k n : Int) (na va : ByteArray) (ad : Option Addr) (len cap : Nat) (R : VSt × Int) (w : World) (hk : kndI k = 6)
    (HC : Hid (∀ W, Below w.heap.size w W → Calls Tryz.prog 32 #[.pointer (some ⟨b, 0, none⟩), .int .i64 n] W fun e w' => e = .returned (.int .i64 R.2) ∧ RAt w0 w' b Y R.1 ∧ GrownS W w' (fun k => k = b))) :
    Calls Tryz.prog 9 #[.pointer (some ⟨b, 0, none⟩), .agg #[.int .i64 k, .string na, .string va, .int .i64 n, .slice ad len cap]] w fun e w' => AskEnd R b Y w0 w e w' := by
  have HK := hide (fun W => kind_any k n na va (.slice ad len cap) W)
  rw [hk] at HK
  clear hk
  go_enter Tryz.func9, Tryz.ntmps9
  go_wp2_with fail
  refine (unhide HK _).mono ?_
  rintro e w1 ⟨rfl, b1⟩
  have hnew := (Blk.new w 36 #[.int .i64 k, .string na, .string va, .int .i64 n, .slice ad len cap]).below b1 (by simp)
  have HB : Hid (Below w.heap.size w w1) := hide (((Below.refl _ w).alloc (Nat.le_refl _) _).trans (b1.mono (by simp)))
  obtain ⟨nb, hnb⟩ : ∃ nb, nb = w.heap.size := ⟨_, rfl⟩
  rw [← hnb] at hnew
  rw [← hnb]
  have e1 : w1.cell? ⟨nb, 1, none⟩ = some (.string na) := hnew.cell 1 rfl
  have e2 : w1.cell? ⟨nb, 2, none⟩ = some (.string va) := hnew.cell 2 rfl
  have e3 : w1.cell? ⟨nb, 3, none⟩ = some (.int .i64 n) := hnew.cell 3 rfl
  have e4 : w1.cell? ⟨nb, 4, none⟩ = some (.slice ad len cap) := hnew.cell 4 rfl
  clear hnew b1 hnb HK
  go_wp2_with fail
  refine (unhide HC _ (unhide HB)).mono ?_
  rintro e w2 ⟨rfl, hv, hg⟩
  have HEND := hide (And.intro hv ((grownS_of_below (unhide HB)).trans hg))
  clear hv hg HC e1 e2 e3 e4
  go_wp2
  go_ret
  exact ⟨rfl, unhide HEND⟩
set_option maxRecDepth 20000 in
set_option maxHeartbeats 4000000 in
theorem ask_se0 (w0 : World) (b : Nat) (Y : Nat → Prop) (k n : Int) (na va : ByteArray) (ad : Option Addr) (len cap : Nat) (R : VSt × Int) (w : World) (hk : kndI k = 0)
    (HC : Hid (∀ W, Below w.heap.size w W → Calls Tryz.prog 33 #[.pointer (some ⟨b, 0, none⟩), .string na, .string va] W fun e w' => e = .returned (.int .i64 R.2) ∧ RAt w0 w' b Y R.1 ∧ GrownS W w' (fun k => k = b))) :
    Calls Tryz.prog 9 #[.pointer (some ⟨b, 0, none⟩), .agg #[.int .i64 k, .string na, .string va, .int .i64 n, .slice ad len cap]] w fun e w' => AskEnd R b Y w0 w e w' := by
  have HK := hide (fun W => kind_any k n na va (.slice ad len cap) W)
  rw [hk] at HK
  clear hk
  go_enter Tryz.func9, Tryz.ntmps9
  go_wp2_with fail
  refine (unhide HK _).mono ?_
  rintro e w1 ⟨rfl, b1⟩
  have hnew := (Blk.new w 36 #[.int .i64 k, .string na, .string va, .int .i64 n, .slice ad len cap]).below b1 (by simp)
  have HB : Hid (Below w.heap.size w w1) := hide (((Below.refl _ w).alloc (Nat.le_refl _) _).trans (b1.mono (by simp)))
  obtain ⟨nb, hnb⟩ : ∃ nb, nb = w.heap.size := ⟨_, rfl⟩
  rw [← hnb] at hnew
  rw [← hnb]
  have e1 : w1.cell? ⟨nb, 1, none⟩ = some (.string na) := hnew.cell 1 rfl
  have e2 : w1.cell? ⟨nb, 2, none⟩ = some (.string va) := hnew.cell 2 rfl
  have e3 : w1.cell? ⟨nb, 3, none⟩ = some (.int .i64 n) := hnew.cell 3 rfl
  have e4 : w1.cell? ⟨nb, 4, none⟩ = some (.slice ad len cap) := hnew.cell 4 rfl
  clear hnew b1 hnb HK
  go_wp2_with fail
  refine (unhide HC _ (unhide HB)).mono ?_
  rintro e w2 ⟨rfl, hv, hg⟩
  have HEND := hide (And.intro hv ((grownS_of_below (unhide HB)).trans hg))
  clear hv hg HC e1 e2 e3 e4
  go_wp2
  go_ret
  exact ⟨rfl, unhide HEND⟩
set_option maxRecDepth 20000 in
set_option maxHeartbeats 4000000 in
theorem ask_se1 (w0 : World) (b : Nat) (Y : Nat → Prop) (k n : Int) (na va : ByteArray) (ad : Option Addr) (len cap : Nat) (R : VSt × Int) (w : World) (hk : kndI k = 1)
    (HC : Hid (∀ W, Below w.heap.size w W → Calls Tryz.prog 33 #[.pointer (some ⟨b, 0, none⟩), .string na, .string va] W fun e w' => e = .returned (.int .i64 R.2) ∧ RAt w0 w' b Y R.1 ∧ GrownS W w' (fun k => k = b))) :
    Calls Tryz.prog 9 #[.pointer (some ⟨b, 0, none⟩), .agg #[.int .i64 k, .string na, .string va, .int .i64 n, .slice ad len cap]] w fun e w' => AskEnd R b Y w0 w e w' := by
  have HK := hide (fun W => kind_any k n na va (.slice ad len cap) W)
  rw [hk] at HK
  clear hk
  go_enter Tryz.func9, Tryz.ntmps9
  go_wp2_with fail
  refine (unhide HK _).mono ?_
  rintro e w1 ⟨rfl, b1⟩
  have hnew := (Blk.new w 36 #[.int .i64 k, .string na, .string va, .int .i64 n, .slice ad len cap]).below b1 (by simp)
  have HB : Hid (Below w.heap.size w w1) := hide (((Below.refl _ w).alloc (Nat.le_refl _) _).trans (b1.mono (by simp)))
  obtain ⟨nb, hnb⟩ : ∃ nb, nb = w.heap.size := ⟨_, rfl⟩
  rw [← hnb] at hnew
  rw [← hnb]
  have e1 : w1.cell? ⟨nb, 1, none⟩ = some (.string na) := hnew.cell 1 rfl
  have e2 : w1.cell? ⟨nb, 2, none⟩ = some (.string va) := hnew.cell 2 rfl
  have e3 : w1.cell? ⟨nb, 3, none⟩ = some (.int .i64 n) := hnew.cell 3 rfl
  have e4 : w1.cell? ⟨nb, 4, none⟩ = some (.slice ad len cap) := hnew.cell 4 rfl
  clear hnew b1 hnb HK
  go_wp2_with fail
  refine (unhide HC _ (unhide HB)).mono ?_
  rintro e w2 ⟨rfl, hv, hg⟩
  have HEND := hide (And.intro hv ((grownS_of_below (unhide HB)).trans hg))
  clear hv hg HC e1 e2 e3 e4
  go_wp2
  go_ret
  exact ⟨rfl, unhide HEND⟩
set_option maxRecDepth 20000 in
set_option maxHeartbeats 4000000 in
theorem ask_arg (w0 : World) (b : Nat) (Y : Nat → Prop) (s : VSt) (k n : Int) (na va : ByteArray) (ad : Option Addr) (len cap : Nat) (l : List (List UInt8)) (ha : AIn w0 (.slice ad len cap) l) (hcp : len ≤ cap) (w : World) (hk : kndI k = 5) (h : RAt w0 w b Y s) :
    Calls Tryz.prog 9 #[.pointer (some ⟨b, 0, none⟩), .agg #[.int .i64 k, .string na, .string va, .int .i64 n, .slice ad len cap]] w fun e w' => AskEnd ({ s with args := l }, 0) b Y w0 w e w' := by
  have HR := hide h
  clear h
  have HK := hide (fun W => kind_any k n na va (.slice ad len cap) W)
  rw [hk] at HK
  clear hk
  go_enter Tryz.func9, Tryz.ntmps9
  go_wp2_with fail
  refine (unhide HK _).mono ?_
  rintro e w1 ⟨rfl, b1⟩
  have hnew := (Blk.new w 36 #[.int .i64 k, .string na, .string va, .int .i64 n, .slice ad len cap]).below b1 (by simp)
  have HB : Hid (Below w.heap.size w w1) := hide (((Below.refl _ w).alloc (Nat.le_refl _) _).trans (b1.mono (by simp)))
  obtain ⟨nb, hnb⟩ : ∃ nb, nb = w.heap.size := ⟨_, rfl⟩
  rw [← hnb] at hnew
  rw [← hnb]
  have e1 : w1.cell? ⟨nb, 1, none⟩ = some (.string na) := hnew.cell 1 rfl
  have e2 : w1.cell? ⟨nb, 2, none⟩ = some (.string va) := hnew.cell 2 rfl
  have e3 : w1.cell? ⟨nb, 3, none⟩ = some (.int .i64 n) := hnew.cell 3 rfl
  have e4 : w1.cell? ⟨nb, 4, none⟩ = some (.slice ad len cap) := hnew.cell 4 rfl
  clear hnew b1 hnb HK
  obtain ⟨lv, av, hb, hr, hl, ha', hc', hs, hy, hB⟩ := (unhide HR).below (unhide HB)
  have c0 : w1.cell? ⟨b, 2, none⟩ = some _ := hb.cell 2 rfl
  have f0 : w1.frozen? ⟨b, 2, none⟩ = false := hb.frozen 2
  have hg : GrownS w1 (w1.setCell ⟨b, 2, none⟩ (.slice ad len cap)) (fun k => k = b) := GrownS.of (grown_setCell w1 _ _) (fun k e => by simpa using e)
  have HEND : Hid (RAt w0 (w1.setCell ⟨b, 2, none⟩ (.slice ad len cap)) b Y { s with args := l } ∧ GrownS w (w1.setCell ⟨b, 2, none⟩ (.slice ad len cap)) (fun k => k = b)) := hide ⟨⟨lv, .slice ad len cap, hb.set 2 _, hr.grownS hg (fun k hk _ e => (hl k hk).1 e), (fun k hk => ⟨(hl k hk).1, (hl k hk).2.1, Nat.lt_of_lt_of_le (hl k hk).2.2 hg.size⟩), ha, (fun a n c e => by injection e with _ e2 e3; omega), hs, hy, hB.trans (hg.below hB.size (fun k e => by rw [e]; exact hs))⟩, (grownS_of_below (unhide HB)).trans hg⟩
  obtain ⟨a9, p9, hav, _⟩ := id ha'
  subst hav
  clear hb hr hl ha' hc' hs hy hB hg HR ha
  go_wp2
  go_ret
  exact ⟨rfl, unhide HEND⟩
set_option maxRecDepth 20000 in
set_option maxHeartbeats 4000000 in
theorem ask_sts (w0 : World) (b : Nat) (Y : Nat → Prop) (s : VSt) (k n : Int) (na va : ByteArray) (ad : Option Addr) (len cap : Nat) (w : World) (hk : kndI k = 7) (h : RAt w0 w b Y s) :
    Calls Tryz.prog 9 #[.pointer (some ⟨b, 0, none⟩), .agg #[.int .i64 k, .string na, .string va, .int .i64 n, .slice ad len cap]] w fun e w' => AskEnd ({ s with st := n }, 0) b Y w0 w e w' := by
  have HR := hide h
  clear h
  have HK := hide (fun W => kind_any k n na va (.slice ad len cap) W)
  rw [hk] at HK
  clear hk
  go_enter Tryz.func9, Tryz.ntmps9
  go_wp2_with fail
  refine (unhide HK _).mono ?_
  rintro e w1 ⟨rfl, b1⟩
  have hnew := (Blk.new w 36 #[.int .i64 k, .string na, .string va, .int .i64 n, .slice ad len cap]).below b1 (by simp)
  have HB : Hid (Below w.heap.size w w1) := hide (((Below.refl _ w).alloc (Nat.le_refl _) _).trans (b1.mono (by simp)))
  obtain ⟨nb, hnb⟩ : ∃ nb, nb = w.heap.size := ⟨_, rfl⟩
  rw [← hnb] at hnew
  rw [← hnb]
  have e1 : w1.cell? ⟨nb, 1, none⟩ = some (.string na) := hnew.cell 1 rfl
  have e2 : w1.cell? ⟨nb, 2, none⟩ = some (.string va) := hnew.cell 2 rfl
  have e3 : w1.cell? ⟨nb, 3, none⟩ = some (.int .i64 n) := hnew.cell 3 rfl
  have e4 : w1.cell? ⟨nb, 4, none⟩ = some (.slice ad len cap) := hnew.cell 4 rfl
  clear hnew b1 hnb HK
  obtain ⟨lv, av, hb, hr, hl, ha', hc', hs, hy, hB⟩ := (unhide HR).below (unhide HB)
  have c0 : w1.cell? ⟨b, 3, none⟩ = some _ := hb.cell 3 rfl
  have f0 : w1.frozen? ⟨b, 3, none⟩ = false := hb.frozen 3
  have hg : GrownS w1 (w1.setCell ⟨b, 3, none⟩ (.int .i64 n)) (fun k => k = b) := GrownS.of (grown_setCell w1 _ _) (fun k e => by simpa using e)
  have HEND : Hid (RAt w0 (w1.setCell ⟨b, 3, none⟩ (.int .i64 n)) b Y { s with st := n } ∧ GrownS w (w1.setCell ⟨b, 3, none⟩ (.int .i64 n)) (fun k => k = b)) := hide ⟨⟨lv, av, hb.set 3 _, hr.grownS hg (fun k hk _ e => (hl k hk).1 e), (fun k hk => ⟨(hl k hk).1, (hl k hk).2.1, Nat.lt_of_lt_of_le (hl k hk).2.2 hg.size⟩), ha', hc', hs, hy, hB.trans (hg.below hB.size (fun k e => by rw [e]; exact hs))⟩, (grownS_of_below (unhide HB)).trans hg⟩
  clear hb hr hl ha' hc' hs hy hB hg HR
  go_wp2
  go_ret
  exact ⟨rfl, unhide HEND⟩
theorem ask_any (w0 : World) (b : Nat) (Y : Nat → Prop) (s : VSt) (o : OpP) (v : Value) (w : World) (hY : ∀ k, w.heap.size ≤ k → Y k) (h : RAt w0 w b Y s) (hv : AIn w0 v o.args) (hcp : RoomOk v) (hn : o.name.length ≤ 100000) (hL : s.L.length ≤ 1000) :
    Calls Tryz.prog 9 #[.pointer (some ⟨b, 0, none⟩), opV o v] w fun e w' => AskEnd (stepS s o) b Y w0 w e w' := by
  obtain ⟨ad, cap, hvv, _⟩ := id hv
  have hcap := hcp _ _ _ hvv
  have hr := knd_range o.kind
  have hYY : ∀ W, Below w.heap.size w W → ∀ k, W.heap.size ≤ k → Y k := fun W hW k hk => hY k (Nat.le_trans hW.size hk)
  unfold opV
  unfold stepS
  by_cases h2 : kndI o.kind = 2
  · rw [if_pos h2, hvv]
    exact ask_uns w0 b Y _ _ _ _ _ _ _ _ w h2 (hide (fun W hW => runset_any w0 W b Y s o.name (hYY W hW) (h.below hW) hn hL))
  rw [if_neg h2]
  by_cases h3 : kndI o.kind = 3
  · rw [if_pos h3, hvv]
    exact ask_exp w0 b Y _ _ _ _ _ _ _ _ w h3 (hide (fun W hW => rexp_any w0 W b Y s o.name (hYY W hW) (h.below hW) hn hL))
  rw [if_neg h3]
  by_cases h4 : kndI o.kind = 4
  · rw [if_pos h4, hvv]
    exact ask_rdo w0 b Y _ _ _ _ _ _ _ _ w h4 (hide (fun W hW => rrdo_any w0 W b Y s o.name (hYY W hW) (h.below hW) hn hL))
  rw [if_neg h4]
  by_cases h5 : kndI o.kind = 5
  · rw [if_pos h5]
    rw [hvv] at hv ⊢
    exact ask_arg w0 b Y s _ _ _ _ _ _ _ o.args hv hcap w h5 h
  rw [if_neg h5]
  by_cases h6 : kndI o.kind = 6
  · rw [if_pos h6, hvv]
    exact ask_shf w0 b Y _ _ _ _ _ _ _ _ w h6 (hide (fun W hW => rshift_any w0 W b Y s o.n (h.below hW)))
  rw [if_neg h6]
  by_cases h7 : kndI o.kind = 7
  · rw [if_pos h7, hvv]
    exact ask_sts w0 b Y s _ _ _ _ _ _ _ w h7 h
  rw [if_neg h7, hvv]
  by_cases h0 : kndI o.kind = 0
  · exact ask_se0 w0 b Y _ _ _ _ _ _ _ _ w h0 (hide (fun W hW => rset_any w0 W b Y s o.name o.value (hYY W hW) (h.below hW) hn hL))
  · exact ask_se1 w0 b Y _ _ _ _ _ _ _ _ w (by omega) (hide (fun W hW => rset_any w0 W b Y s o.name o.value (hYY W hW) (h.below hW) hn hL))

end Go.Proofs.YtbcbnoeplapblaaGreatDoor

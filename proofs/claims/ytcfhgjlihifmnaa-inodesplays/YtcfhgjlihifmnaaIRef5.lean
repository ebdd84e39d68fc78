/-
  The document's table: Get, Make, New.
-/
import Derived.Test.YtcfhgjlihifmnaaIRef4
namespace Go.Proofs.Ytcfhgjlihifmnaa
open Go.RowKit Go.Maps

def datO (o : Option Nd) : List UInt8 := match o with | none => [] | some x => datOf x
theorem heap_new (w : World) (o : Obj) : (w.alloc o).heap[w.heap.size]? = some o := by show (w.heap.push o)[w.heap.size]? = _; simp
set_option maxRecDepth 20000 in
set_option maxHeartbeats 1000000 in
theorem rget_any {w : World} {q nb : Nat} {Y : Nat → Prop} {T : TB} (H : RAt w q Y T nb) (hgd : ∀ (k : Nat) (x : Nd), T[k]? = some (some x) → 1 ≤ x.kind) (i : Int) (hb : -9223372036854775808 ≤ i ∧ i ≤ 9223372036854775807) :
    Calls Try.prog 18 #[.pointer (some ⟨q, 0, none⟩), .int .i64 i] w fun e w' => ∃ (u : Int) (ad : Option Addr) (m c : Nat), e = .returned (.agg #[.int .i64 (kindOf (ndAt T i) : Int), .int .i64 (namesOf (ndAt T i) : Int), .int .i64 u, .string (BA (datO (ndAt T i))), .slice ad m c]) ∧ Below w.heap.size w w' := by
  obtain ⟨K, HL, hin⟩ := H
  obtain ⟨W, hW⟩ : ∃ W, W = w.alloc (.cells #[.int .i64 0, .int .i64 0, .int .i64 0, .string ⟨#[]⟩, .slice none 0 0] 44) := ⟨_, rfl⟩
  have hbw : Below w.heap.size w W := by rw [hW]; exact (Below.refl _ _).alloc (Nat.le_refl _) _
  have HLW := HL.grownS (S := fun _ => False) (grownS_of_below hbw) (HL.lt.mono (fun _ _ e => e))
  have HI := hide (ris_any HLW hgd i hb)
  cases hx : ndAt T i with
  | none =>
    rw [hx] at HI
    rw [hW] at HI
    clear HL hx hin HLW hbw hW
    go_enter Try.func18, Try.ntmps18
    go_wp2_with fail
    refine (unhide HI).mono ?_
    rintro e w1 ⟨rfl, hw1⟩
    rw [show w1 = _ from hw1]
    clear hw1
    go_wp2
    refine bodyPost_ret (results_cell_row (P := Try.prog) rfl _ _ w.heap.size 44 _ (0, 0) _ rfl (heap_new _ _) Try.underlying44 rfl (by kernel_rfl)) rfl ⟨_, _, _, _, rfl, (Below.refl _ w).alloc (Nat.le_refl _) _⟩
  | some x =>
    rw [hx] at HI
    obtain ⟨k, rfl, hk, hkn⟩ := ndAt_some hx
    have q0 := HLW.tab.cell 0 rfl
    change _ = some (Value.slice (some ⟨K.r, 0, none⟩) (T.length + 1) K.c) at q0
    have c0 := (HLW.cell0 hk).1
    have c1 := (HLW.cellN hk (j := 1) (by decide)).1
    have c2 := (HLW.cellN hk (j := 2) (by decide)).1
    have c3 := (HLW.cellN hk (j := 3) (by decide)).1
    have c4 := (HLW.cellN hk (j := 4) (by decide)).1
    change _ = some (Value.int .i64 (x.kind : Int)) at c0
    change _ = some (Value.int .i64 (x.names : Int)) at c1
    change _ = some (Value.int .i64 (x.users : Int)) at c2
    change _ = some (Value.string (BA (datOf x))) at c3
    change _ = some (Value.slice (some ⟨K.h (k + 1), 0, none⟩) 64 (K.hc (k + 1))) at c4
    have hmx := HL.max
    rw [hW] at HI q0 c0 c1 c2 c3 c4
    show Calls Try.prog 18 #[.pointer (some ⟨q, 0, none⟩), .int .i64 ((k : Int) + 1)] w fun e w' => ∃ (u : Int) (ad : Option Addr) (m c : Nat), e = .returned (.agg #[.int .i64 (x.kind : Int), .int .i64 (x.names : Int), .int .i64 u, .string (BA (datOf x)), .slice ad m c]) ∧ Below w.heap.size w w'
    have hrl : K.r < w.heap.size := HL.lt.r
    have hql : q < w.heap.size := HL.lt.q
    obtain ⟨n, hn⟩ : ∃ n, n = T.length := ⟨_, rfl⟩
    obtain ⟨r, hr⟩ : ∃ r, r = K.r := ⟨_, rfl⟩
    obtain ⟨c, hc⟩ : ∃ c, c = K.c := ⟨_, rfl⟩
    rw [← hn, ← hr, ← hc] at q0
    rw [← hr] at c0 c1 c2 c3 c4 hrl
    obtain ⟨hb', hhb⟩ : ∃ hb, hb = K.h (k + 1) := ⟨_, rfl⟩
    obtain ⟨hcc, hhc⟩ : ∃ hcc, hcc = K.hc (k + 1) := ⟨_, rfl⟩
    obtain ⟨dd, hdd⟩ : ∃ dd, dd = BA (datOf x) := ⟨_, rfl⟩
    rw [← hhb, ← hhc] at c4
    rw [← hdd] at c3 ⊢
    obtain ⟨nm, hnm⟩ : ∃ nm, nm = x.names := ⟨_, rfl⟩
    obtain ⟨us, hus⟩ : ∃ us, us = x.users := ⟨_, rfl⟩
    obtain ⟨kd, hkd⟩ : ∃ kd, kd = x.kind := ⟨_, rfl⟩
    rw [← hnm] at c1 ⊢
    rw [← hus] at c2
    rw [← hkd] at c0 ⊢
    have h3 : (k : Int) + 1 < (n : Int) + 1 := by omega
    have h4 : (0 : Int) ≤ (k : Int) + 1 := by omega
    clear HL hx hin HLW hbw hW hk hkn hn hr hc hhb hhc hdd hnm hus hkd hgd
    go_enter Try.func18, Try.ntmps18
    go_wp2_with fail
    refine (unhide HI).mono ?_
    rintro e w1 ⟨rfl, hw1⟩
    rw [show w1 = _ from hw1]
    clear hw1
    go_wp2
    refine bodyPost_ret (results_cell_row (P := Try.prog) rfl _ _ w.heap.size 44 _ (0, 0) _ rfl (heap_new _ _) Try.underlying44 rfl (by kernel_rfl)) rfl ⟨_, _, _, _, rfl, (Below.refl _ w).alloc (Nat.le_refl _) _⟩

end Go.Proofs.Ytcfhgjlihifmnaa

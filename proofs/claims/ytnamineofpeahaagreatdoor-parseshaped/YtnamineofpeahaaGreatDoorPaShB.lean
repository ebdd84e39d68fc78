/-
  ParseShaped: the law's own all, of what is read.
-/
import Derived.Test.YtnamineofpeahaaGreatDoorPaShA
namespace Go.Proofs.YtnamineofpeahaaGreatDoor
open Go.RowKit

/-- What all answers of a row of commands. -/
def AllOk (l : List Cm) : Prop := ∀ (w : World) (A : Nat → Prop) (v : Value), RowAt Kc w A v l → (∀ k, A k → k < w.heap.size) → Calls Tryz.prog 12 #[v] w fun e w' => e = .returned (.bool true) ∧ Below w.heap.size w w'
/-- An element of a row, as the law's all reads it. -/
structure ElOk (W : World) (g off : Nat) (x : CV) : Prop where
 lt : g < W.heap.size
 c0 : W.cell? ⟨g, off, none⟩ = some (.int .i64 x.k)
 c1 : W.cell? ⟨g, off + 1, none⟩ = some (.bool x.no)
 c2 : W.cell? ⟨g, off + 2, none⟩ = some (.slice x.al x.nl x.cl)
 c3 : W.cell? ⟨g, off + 3, none⟩ = some (.slice x.aw x.nw x.cw)
 c4 : W.cell? ⟨g, off + 4, none⟩ = some (.slice x.ar x.nr x.cr)
 c5 : W.cell? ⟨g, off + 5, none⟩ = some (.slice x.ac x.nc x.cc)
 c6 : W.cell? ⟨g, off + 6, none⟩ = some (.string (BA x.nm))
 c7 : W.cell? ⟨g, off + 7, none⟩ = some (.bool x.ev)
 c8 : W.cell? ⟨g, off + 8, none⟩ = some (.slice x.ai x.ni x.ci)
 it : x.ni ≤ 5000
 sh : Calls Tryz.prog 32 #[.agg #[.int .i64 x.k, .bool x.no, .slice x.al x.nl x.cl, .slice x.aw x.nw x.cw, .slice x.ar x.nr x.cr, .slice x.ac x.nc x.cc, .string (BA x.nm), .bool x.ev, .slice x.ai x.ni x.ci]] W fun e w' => e = .returned (.bool true) ∧ Below W.heap.size W w'
 al : ∀ W', Below W.heap.size W W' → Calls Tryz.prog 12 #[.slice x.ac x.nc x.cc] W' fun e w' => e = .returned (.bool true) ∧ Below W'.heap.size W' w'
 its : ∀ k, k < x.ni → ∃ (h nw cw nb cb : Nat) (aw ab : Option Addr), x.ai = some ⟨h, 0, none⟩ ∧ h < W.heap.size ∧ W.cell? ⟨h, k * 2, none⟩ = some (.slice aw nw cw) ∧ W.cell? ⟨h, k * 2 + 1, none⟩ = some (.slice ab nb cb) ∧ 0 < nw ∧ nb ≤ 1 ∧ ∀ W', Below W.heap.size W W' → Calls Tryz.prog 12 #[.slice ab nb cb] W' fun e w' => e = .returned (.bool true) ∧ Below W'.heap.size W' w'
/-- What is asked of a command for all. -/
structure Alw (c : Cm) : Prop where
 sh : ShC c
 cm : AllOk c.cmds
 le : c.items.length ≤ 5000
 it : ∀ x ∈ c.items, x.1 ≠ [] ∧ x.2.length ≤ 1 ∧ AllOk x.2
theorem el_of {w : World} {A : Nat → Prop} {v : Value} {l : List Cm} (hv : RowAt Kc w A v l) (hA : ∀ k, A k → k < w.heap.size) (hl : ∀ c ∈ l, Alw c) {ad : Option Addr} {n cap : Nat} (e : v = .slice ad n cap) {q : Nat} (hq : q < l.length) : ∃ (g : Nat) (x : CV), ad = some ⟨g, 0, none⟩ ∧ ElOk w g (q * 9) x := by
 obtain ⟨g, cap', e1, hg, hel⟩ := hv.cmd (by omega)
 rw [e] at e1
 injection e1 with e1 e2 e3
 obtain ⟨cs, h1, hc⟩ := hel q _ (List.getElem?_eq_getElem hq)
 have H := hl _ (List.getElem_mem hq)
 generalize l[q] = c at h1 H
 have h1' := h1
 obtain ⟨vl, vw, vr, vc, vi, rfl, r1, r2, r3, r4, r5⟩ := h1.view
 obtain ⟨al, cl, rfl⟩ := r1.slice
 obtain ⟨aw, cw, rfl⟩ := r2.slice
 obtain ⟨ar, cr, rfl⟩ := r3.slice
 obtain ⟨ac, cc, rfl⟩ := r4.slice
 obtain ⟨ai, ci, rfl⟩ := r5.slice
 refine ⟨g, ⟨c.kind, c.no, al, c.lets.length, cl, aw, c.words.length, cw, ar, c.redirs.length, cr, ac, c.cmds.length, cc, c.name, c.every, ai, c.items.length, ci⟩, e1, ⟨hA g hg, hc 0 _ rfl, hc 1 _ rfl, hc 2 _ rfl, hc 3 _ rfl, hc 4 _ rfl, hc 5 _ rfl, hc 6 _ rfl, hc 7 _ rfl, hc 8 _ rfl, H.le, shaped_any h1' H.sh hA, fun W' hb => H.cm W' A _ (r4.kept (fun k hk => hb.block k (hA k hk)) (fun k hk => hk)) (fun k hk => Nat.lt_of_lt_of_le (hA k hk) hb.size), fun k hk => ?_⟩⟩
 obtain ⟨h, cap2, e4, hh, hel2⟩ := r5.el (by have : k < c.items.length := hk; omega)
 injection e4 with e4 e5 e6
 obtain ⟨cs, ⟨vw, vb, rfl, s1, s2⟩, hc2⟩ := hel2 k _ (List.getElem?_eq_getElem hk)
 have K := H.it _ (List.getElem_mem hk)
 obtain ⟨aw2, cw2, rfl⟩ := s1.slice
 obtain ⟨ab, cb, rfl⟩ := s2.slice
 exact ⟨h, _, cw2, _, cb, aw2, ab, e4, hA h hh, hc2 0 _ rfl, hc2 1 _ rfl, List.length_pos_iff.2 K.1, K.2.1, fun W' hb => K.2.2 W' A _ (s2.kept (fun k hk => hb.block k (hA k hk)) (fun k hk => hk)) (fun k hk => Nat.lt_of_lt_of_le (hA k hk) hb.size)⟩
set_option maxRecDepth 20000 in
set_option maxHeartbeats 4000000 in
theorem all_of (l : List Cm) (hn : l.length ≤ 5000) (hl : ∀ c ∈ l, Alw c) : AllOk l := by
 intro w A v hv hA
 obtain ⟨ad, cap, hvs⟩ := hv.slice
 have HEL : Hid (∀ W, Below w.heap.size w W → ∀ q, q < l.length → ∃ (g : Nat) (x : CV), ad = some ⟨g, 0, none⟩ ∧ ElOk W g (q * 9) x) := hide (fun W hb q hq => el_of (hv.kept (fun k hk => hb.block k (hA k hk)) (fun k hk => hk)) (fun k hk => Nat.lt_of_lt_of_le (hA k hk) hb.size) hl hvs hq)
 subst hvs
 obtain ⟨n, hnl⟩ : ∃ n, n = l.length := ⟨_, rfl⟩
 rw [← hnl] at HEL hn ⊢
 clear hv hA hl hnl
 go_enter Tryz.func12, Tryz.ntmps12
 go_wp2_with fail
 go_loopw [3] (fun i wr => ∃ q : Nat, i = .int .i64 (q : Int) ∧ q ≤ n ∧ Hid (Below w.heap.size w wr)) (fun i _ => n - (intOf i).toNat)
 case atStart => exact ⟨0, rfl, Nat.zero_le _, hide (Below.refl _ _)⟩
 case round =>
  obtain ⟨q, rfl, hq, HB⟩ := hrel
  obtain ⟨wA, hwA⟩ : ∃ z, z = wr := ⟨_, rfl⟩
  subst hwA
  by_cases hqn : q < n
  ·obtain ⟨g, x, rfl, hx⟩ := uh HEL _ (uh HB) q hqn
   have HX := hide hx
   have c0 := hx.c0
   have c1 := hx.c1
   have c2 := hx.c2
   have c3 := hx.c3
   have c4 := hx.c4
   have c5 := hx.c5
   have c6 := hx.c6
   have c7 := hx.c7
   have c8 := hx.c8
   have hqi : (q : Int) < (n : Int) := by omega
   clear hx HEL
   go_wp2_with fail
   refine (uh HX).sh.mono ?_
   rintro e w1 ⟨rfl, b1⟩
   have d5 : w1.cell? ⟨g, q * 9 + 5, none⟩ = some (.slice x.ac x.nc x.cc) := (b1.cell (uh HX).lt).trans c5
   have B1 := hide b1
   clear b1 c0 c1 c2 c3 c4 c5 c6 c7
   go_wp2_with fail
   refine ((uh HX).al w1 (uh B1)).mono ?_
   rintro e w2 ⟨rfl, b2⟩
   have B2 := hide ((uh B1).trans (b2.mono (uh B1).size))
   clear b2 d5 B1
   go_wp2_with fail
   go_loopw [4] (fun j wr2 => ∃ k : Nat, j = .int .i64 (k : Int) ∧ k ≤ x.ni ∧ Hid (Below wA.heap.size wA wr2)) (fun j _ => x.ni - (intOf j).toNat)
   case atStart => exact ⟨0, rfl, Nat.zero_le _, B2⟩
   case round =>
    obtain ⟨k, rfl, hk, HC⟩ := hrel
    have f8 : wr.cell? ⟨g, q * 9 + 8, none⟩ = some (.slice x.ai x.ni x.ci) := ((uh HC).cell (uh HX).lt).trans c8
    clear c8
    have hnl := (uh HX).it
    by_cases hkn : k < x.ni
    ·obtain ⟨h, nw, cw, nb, cb, aw, ab, e1, hh, i0, i1, hnw, hnb, hal⟩ := (uh HX).its k hkn
     rw [e1] at f8
     have g0 : wr.cell? ⟨h, k * 2, none⟩ = some (.slice aw nw cw) := ((uh HC).cell hh).trans i0
     have g1 : wr.cell? ⟨h, k * 2 + 1, none⟩ = some (.slice ab nb cb) := ((uh HC).cell hh).trans i1
     have hki : (k : Int) < (x.ni : Int) := by omega
     have hz : ((nw : Int) == 0) = false := by rw [beq_eq_false_iff_ne]; omega
     have hb1 : ¬ (1 : Int) < (nb : Int) := by omega
     have HAL := hide hal
     have HCA : Hid (∀ o, Below wA.heap.size wA (wr.alloc o)) := hide (fun o => (uh HC).alloc (uh HC).size o)
     clear i0 i1 hal e1 hnw hnb hh
     go_wp2_with fail
     refine (uh HAL _ (uh HCA _)).mono ?_
     rintro e w3 ⟨rfl, b3⟩
     have B3 := hide ((uh HCA _).trans (b3.mono (uh HCA _).size))
     clear b3 g0 g1 f8
     go_wp2_with fail
     go_roundw
     case rel => exact ⟨k + 1, by go_num, by omega, B3⟩
     case measure => simp [intOf]; omega
    ·have hki : ¬ (k : Int) < (x.ni : Int) := by omega
     go_wp2_with fail
     go_roundw
     case rel => exact ⟨q + 1, by go_num, by omega, hide ((uh HB).trans ((uh HC).mono (uh HB).size))⟩
     case measure => simp [intOf]; omega
  ·have hqi : ¬ (q : Int) < (n : Int) := by omega
   clear HEL
   go_wp2_with fail
   go_ret
   exact ⟨rfl, uh HB⟩
/-- What is shaped is so to the law. -/
theorem alw_of {c : Cm} (h : ShC c) : Alw c := by
 induction h with
 | mk k no lets words redirs cmds name ev items h hn hr hc hi hb ih1 ih2 =>
   refine ⟨.mk k no lets words redirs cmds name ev items h hn hr hc hi hb, all_of cmds hn.2.1 ih1, hn.2.2, fun x hx => ⟨(hi x hx).1, (hi x hx).2, all_of x.2 (Nat.le_trans (hi x hx).2 (by decide)) (ih2 x hx)⟩⟩

end Go.Proofs.YtnamineofpeahaaGreatDoor

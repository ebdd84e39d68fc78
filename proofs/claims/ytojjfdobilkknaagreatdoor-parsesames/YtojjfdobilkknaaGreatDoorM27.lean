/- The parser: a Func.; The parser: commands behind one another are one command.; The parser: a For. -/
import Derived.Test.YtojjfdobilkknaaGreatDoorM26
import Derived.Test.YtojjfdobilkknaaGreatDoorM14
set_option maxRecDepth 20000
set_option maxHeartbeats 8000000
namespace Go.Proofs.YtojjfdobilkknaaGreatDoor
open Go.RowKit Go.Maps
theorem CmAt.redirsRow {w : World} {A : Nat → Prop} {c : Cm} {x : CV} (h : CmAt w A c x.l) : RowAt Kr w A (.slice x.ar x.nr x.cr) c.redirs := by
 obtain ⟨k, no, lets, words, redirs, cmds, name, ev, items⟩ := c
 obtain ⟨vl, vw, vr, vc, vi, e, h1, h2, h3, h4, h5⟩ := h.rows
 unfold CV.l at e
 injection e with e0 e
 injection e with e1 e
 injection e with e2 e
 injection e with e3 e
 injection e with e4 e
 rw [e4]
 exact h3
theorem pfunction_any (w : World) (b : Nat) (mp : Value) (s : Pz) (H : PzAt w b mp s) (he : PEnv w) (hb : 7 ≤ b) (hm : MpAt w b mp) (lst : Pz → Cm × Pz) (hcp : ∀ W, PzAt W b mp (((s.name.2.want kLp).want kRp).gap) → PEnv W → MpAt W b mp → Reads 99 b mp (Pz.compound lst) W (((s.name.2.want kLp).want kRp).gap)) : Reads 102 b mp (Pz.function lst) w s := by
 obtain ⟨W1, hW1⟩ : ∃ W1, W1 = w.alloc (.cells #[.int .i64 0, .bool false, .slice none 0 0, .slice none 0 0, .slice none 0 0, .slice none 0 0, .string ⟨#[]⟩, .bool false, .slice none 0 0] 33) := ⟨_, rfl⟩
 obtain ⟨nb, hnb⟩ : ∃ nb, nb = w.heap.size := ⟨_, rfl⟩
 have R1 : Hid (RS w W1 b nb mp 33 #[.int .i64 0, .bool false, .slice none 0 0, .slice none 0 0, .slice none 0 0, .slice none 0 0, .string ⟨#[]⟩, .bool false, .slice none 0 0] s) := hide (by rw [hW1, hnb]; exact rs_begin H he hb)
 have HM : Hid (∀ W, Fr w W b → MpAt W b mp) := hide (fun W h => hm.fr h)
 have HW1 := hide hW1
 have HNB := hide hnb
 have HNM := hide (pname_any W1 b mp s (uh R1).pz)
 obtain ⟨m, hmm⟩ : ∃ m, m = s.name.1 := ⟨_, rfl⟩
 obtain ⟨s1, hs1⟩ : ∃ s1, s1 = s.name.2 := ⟨_, rfl⟩
 obtain ⟨S6, hS6⟩ : ∃ S6, S6 = ((s1.want kLp).want kRp).gap := ⟨_, rfl⟩
 rw [← hmm, ← hs1] at HNM
 rw [← hs1, ← hS6] at hcp
 have HCP := hide hcp
 have HS6 := hide hS6
 unfold Reads
 obtain ⟨R, hR⟩ : ∃ R, R = s.function lst := ⟨_, rfl⟩
 have HR : Hid (R = (.mk 13 false [] [] (S6.compound lst).1.redirs [(S6.compound lst).1.setRedirs []] m false [], (S6.compound lst).2)) := hide (by rw [hR, hS6, hs1, hmm]; rfl)
 rw [← hR]
 have HWB : Hid (w.heap.size ≤ W1.heap.size ∧ nb < W1.heap.size ∧ b < W1.heap.size) := hide ⟨(uh R1).fr.size, (uh R1).res.lt, (uh R1).pz.lt⟩
 clear hR hW1 hnb H he hm hmm hs1 hS6 hcp
 go_enter Tryz.func102, Tryz.ntmps102
 go_upto_region 1 with fail
 rw [← uh HW1, ← uh HNB]
 clear HW1 HNB
 go_wp2_with fail
 refine (uh HNM).mono ?_
 rintro e w2 ⟨rfl, p2, f2⟩
 have R2 := hide ((uh R1).step p2 f2)
 obtain ⟨g1, hg1⟩ : ∃ g1, g1 = w2.heap.size := ⟨_, rfl⟩
 obtain ⟨W3, hW3⟩ : ∃ W3, W3 = w2.alloc (.cells #[.int .i64 13, .bool false, .slice none 0 0, .slice none 0 0, .slice none 0 0, .slice none 0 0, .string (BA m), .bool false, .slice none 0 0] 33) := ⟨_, rfl⟩
 have b3 : Below w2.heap.size w2 W3 := by rw [hW3]; exact (Below.refl _ w2).alloc (ler _) _
 have R3 := hide ((uh R2).below b3)
 have HK3 : Hid (Blk W3 g1 33 #[.int .i64 13, .bool false, .slice none 0 0, .slice none 0 0, .slice none 0 0, .slice none 0 0, .string (BA m), .bool false, .slice none 0 0]) := hide (by rw [hW3, hg1]; exact Blk.new _ _ _)
 have HG1 : Hid (b < g1 ∧ nb < g1 ∧ w.heap.size ≤ g1) := hide ⟨by rw [hg1]; exact p2.lt, by rw [hg1]; exact (uh R2).res.lt, by rw [hg1]; exact (uh R2).fr.size⟩
 have HW3 := hide hW3
 have HGG := hide hg1
 have HWT1 := hide (pwant_any W3 b mp s1 kLp (uh R3).pz)
 clear hW3 hg1 b3 p2 f2 R1 R2 HNM
 go_upto_region 2 with fail
 rw [← uh HGG, ← uh HW3]
 clear HGG HW3
 go_wp2_with fail
 refine (uh HWT1).mono ?_
 rintro e w4 ⟨rfl, p4, f4⟩
 have R4 := hide ((uh R3).step p4 f4)
 have HK4 := hide ((uh HK3).grownS f4 (fun e => by have := (uh HG1).1; omega))
 have HWT2 := hide (pwant_any w4 b mp (s1.want kLp) kRp p4)
 clear p4 f4 R3 HK3 HWT1
 go_wp2_with fail
 refine (uh HWT2).mono ?_
 rintro e w5 ⟨rfl, p5, f5⟩
 have R5 := hide ((uh R4).step p5 f5)
 have HK5 := hide ((uh HK4).grownS f5 (fun e => by have := (uh HG1).1; omega))
 have HGP := hide (pgap_any w5 b mp ((s1.want kLp).want kRp) p5)
 clear p5 f5 R4 HK4 HWT2
 go_wp2_with fail
 refine (uh HGP).mono ?_
 rintro e w6 ⟨rfl, p6, f6⟩
 rw [← uh HS6] at p6
 have R6 := hide ((uh R5).step p6 f6)
 have HK6 := hide ((uh HK5).grownS f6 (fun e => by have := (uh HG1).1; omega))
 have HCC := hide (uh HCP w6 p6 (uh R6).env (uh HM w6 (uh R6).fr))
 have HG6 : Hid (g1 < w6.heap.size ∧ b < w6.heap.size ∧ w.heap.size ≤ w6.heap.size ∧ nb < w6.heap.size) := hide ⟨(uh HK6).lt, p6.lt, (uh R6).fr.size, (uh R6).res.lt⟩
 unfold Reads at HCC
 clear p6 f6 R5 HK5 HGP HCP
 go_wp2_with fail
 refine (uh HCC).mono ?_
 rintro e w7 ⟨x, rfl, HG⟩
 have R7 := hide ((uh R6).step (uh HG).pz (uh HG).fr)
 have k7 := (uh HK6).grownS (uh HG).fr (fun e => by have := (uh HG1).1; omega)
 have h67 := (uh HG).fr.size
 have hcm7 := (uh HG).cm
 obtain ⟨g2, hg2⟩ : ∃ g2, g2 = w7.heap.size := ⟨_, rfl⟩
 obtain ⟨W8, hW8⟩ : ∃ W8, W8 = w7.alloc (.cells #[.int .i64 x.k, .bool x.no, .slice x.al x.nl x.cl, .slice x.aw x.nw x.cw, .slice x.ar x.nr x.cr, .slice x.ac x.nc x.cc, .string (BA x.nm), .bool x.ev, .slice x.ai x.ni x.ci] 33) := ⟨_, rfl⟩
 obtain ⟨W9, hW9⟩ : ∃ W9, W9 = W8.setCell ⟨g1, 4, none⟩ (.slice x.ar x.nr x.cr) := ⟨_, rfl⟩
 obtain ⟨W10, hW10⟩ : ∃ W10, W10 = W9.setCell ⟨g2, 4, none⟩ (.slice none 0 0) := ⟨_, rfl⟩
 obtain ⟨g3, hg3⟩ : ∃ g3, g3 = W10.heap.size := ⟨_, rfl⟩
 obtain ⟨W11, hW11⟩ : ∃ W11, W11 = W10.alloc (.cells #[.int .i64 x.k, .bool x.no, .slice x.al x.nl x.cl, .slice x.aw x.nw x.cw, .slice none 0 0, .slice x.ac x.nc x.cc, .string (BA x.nm), .bool x.ev, .slice x.ai x.ni x.ci] 33) := ⟨_, rfl⟩
 obtain ⟨W12, hW12⟩ : ∃ W12, W12 = W11.setCell ⟨g1, 5, none⟩ (.slice (some ⟨g3, 0, none⟩) 1 1) := ⟨_, rfl⟩
 have b8 : Below w7.heap.size w7 W8 := by rw [hW8]; exact (Below.refl _ w7).alloc (ler _) _
 have hs8 : W8.heap.size = g2 + 1 := by rw [hW8, hg2]; simp
 have f9 : GrownS W8 W9 (fun k => k = g1) := by rw [hW9]; exact fr_set W8 g1 4 _
 have hs9 : W9.heap.size = g2 + 1 := by rw [hW9]; simp [World.setCell, hs8]
 have f10 : GrownS W9 W10 (fun k => k = g2) := by rw [hW10]; exact fr_set W9 g2 4 _
 have hs10 : g3 = g2 + 1 := by rw [hg3, hW10]; simp [World.setCell, hs9]
 have b11 : Below W10.heap.size W10 W11 := by rw [hW11]; exact (Below.refl _ W10).alloc (ler _) _
 have hs11 : W11.heap.size = g3 + 1 := by rw [hW11, hg3]; simp
 have f12 : GrownS W11 W12 (fun k => k = g1) := by rw [hW12]; exact fr_set W11 g1 5 _
 have hg16 := (uh HG6).1
 have hgb := (uh HG1).1
 have hgn := (uh HG1).2.1
 have R8 := (uh R7).below b8
 have k8 : Blk W8 g1 33 #[.int .i64 13, .bool false, .slice none 0 0, .slice none 0 0, .slice none 0 0, .slice none 0 0, .string (BA m), .bool false, .slice none 0 0] := k7.below b8 k7.lt
 have j8 : Blk W8 g2 33 #[.int .i64 x.k, .bool x.no, .slice x.al x.nl x.cl, .slice x.aw x.nw x.cw, .slice x.ar x.nr x.cr, .slice x.ac x.nc x.cc, .string (BA x.nm), .bool x.ev, .slice x.ai x.ni x.ci] := by rw [hW8, hg2]; exact Blk.new _ _ _
 have k9 : Blk W9 g1 33 #[.int .i64 13, .bool false, .slice none 0 0, .slice none 0 0, .slice x.ar x.nr x.cr, .slice none 0 0, .string (BA m), .bool false, .slice none 0 0] := by
  have := k8.set 4 (.slice x.ar x.nr x.cr)
  simp only [List.setIfInBounds_toArray, List.set_cons_zero, List.set_cons_succ] at this
  rw [hW9]; exact this
 have j9 : Blk W9 g2 33 #[.int .i64 x.k, .bool x.no, .slice x.al x.nl x.cl, .slice x.aw x.nw x.cw, .slice x.ar x.nr x.cr, .slice x.ac x.nc x.cc, .string (BA x.nm), .bool x.ev, .slice x.ai x.ni x.ci] := j8.grownS f9 (by omega)
 have k10 : Blk W10 g1 33 #[.int .i64 13, .bool false, .slice none 0 0, .slice none 0 0, .slice x.ar x.nr x.cr, .slice none 0 0, .string (BA m), .bool false, .slice none 0 0] := k9.grownS f10 (by omega)
 have j10 : Blk W10 g2 33 #[.int .i64 x.k, .bool x.no, .slice x.al x.nl x.cl, .slice x.aw x.nw x.cw, .slice none 0 0, .slice x.ac x.nc x.cc, .string (BA x.nm), .bool x.ev, .slice x.ai x.ni x.ci] := by
  have := j9.set 4 (.slice none 0 0)
  simp only [List.setIfInBounds_toArray, List.set_cons_zero, List.set_cons_succ] at this
  rw [hW10]; exact this
 have k11 : Blk W11 g1 33 #[.int .i64 13, .bool false, .slice none 0 0, .slice none 0 0, .slice x.ar x.nr x.cr, .slice none 0 0, .string (BA m), .bool false, .slice none 0 0] := k10.below b11 k10.lt
 have k12 : Blk W12 g1 33 #[.int .i64 13, .bool false, .slice none 0 0, .slice none 0 0, .slice x.ar x.nr x.cr, .slice (some ⟨g3, 0, none⟩) 1 1, .string (BA m), .bool false, .slice none 0 0] := by
  have := k11.set 5 (.slice (some ⟨g3, 0, none⟩) 1 1)
  simp only [List.setIfInBounds_toArray, List.set_cons_zero, List.set_cons_succ] at this
  rw [hW12]; exact this
 have R12 : Hid (RS w W12 b nb mp 33 #[.int .i64 0, .bool false, .slice none 0 0, .slice none 0 0, .slice none 0 0, .slice none 0 0, .string ⟨#[]⟩, .bool false, .slice none 0 0] (S6.compound lst).2) := hide ((((R8.turn f9 hgn).turn f10 (by omega)).below b11).turn f12 hgn)
 have hkeep : ∀ k, w6.heap.size ≤ k → k < w7.heap.size → W10.heap[k]? = w7.heap[k]? := fun k h1 h2 => ((f10.block k (by omega) (by omega)).trans (f9.block k (by omega) (by omega))).trans (b8.block k h2)
 have HFIN := hide ((uh R12).fin (x := ⟨13, false, none, 0, 0, none, 0, 0, x.ar, x.nr, x.cr, some ⟨g3, 0, none⟩, 1, 1, m, false, none, 0, 0⟩) (A := fun k => (w6.heap.size ≤ k ∧ k < W12.heap.size) ∧ k ≠ g2) (c := .mk 13 false [] [] (S6.compound lst).1.redirs [(S6.compound lst).1.setRedirs []] m false []) (by
  have hk12 : ∀ k, w6.heap.size ≤ k → k < w7.heap.size → W12.heap[k]? = w7.heap[k]? := fun k h1 h2 => ((f12.block k (by omega) (by omega)).trans (b11.block k (by omega))).trans (hkeep k h1 h2)
  have hsz12 : W12.heap.size = g3 + 1 := by rw [hW12]; simp [World.setCell, hs11]
  refine CmAt.of (nilrow _ _ _) (nilrow _ _ _) (hcm7.redirsRow.kept (fun k hk => hk12 k hk.1 hk.2) (fun k hk => ⟨⟨hk.1, by have := hk.2; omega⟩, by have := hk.2; omega⟩)) ?_ (nilrow _ _ _)
  have hb1 : CmAt W10 (New w6 w7) ((S6.compound lst).1.setRedirs []) (CV.l { x with ar := none, nr := 0, cr := 0 }) := CmAt.setRedirs (hcm7.kept (fun k hk => hkeep k hk.1 hk.2) (fun k hk => hk)) (nilrow _ _ _)
  refine ⟨_, 1, rfl, .inr ⟨g3, #[.int .i64 x.k, .bool x.no, .slice x.al x.nl x.cl, .slice x.aw x.nw x.cw, .slice none 0 0, .slice x.ac x.nc x.cc, .string (BA x.nm), .bool x.ev, .slice x.ai x.ni x.ci], rfl, ⟨⟨by omega, by omega⟩, by omega⟩, ?_, fun i y hy => ?_⟩⟩
  ·have h11 : Blk W11 g3 33 #[.int .i64 x.k, .bool x.no, .slice x.al x.nl x.cl, .slice x.aw x.nw x.cw, .slice none 0 0, .slice x.ac x.nc x.cc, .string (BA x.nm), .bool x.ev, .slice x.ai x.ni x.ci] := by rw [hW11, hg3]; exact Blk.new _ _ _
   exact h11.grownS f12 (by omega)
  ·cases i with
   | succ i => simp at hy
   | zero =>
     simp at hy
     subst hy
     refine ⟨_, hb1.kept (fun k hk => (f12.block k (by have := hk.2; omega) (by have := hk.1; omega)).trans (b11.block k (by have := hk.2; omega))) (fun k hk => ⟨⟨hk.1, by have := hk.2; omega⟩, by have := hk.2; omega⟩), fun j u hu => ?_⟩
     show (#[.int .i64 x.k, .bool x.no, .slice x.al x.nl x.cl, .slice x.aw x.nw x.cw, .slice none 0 0, .slice x.ac x.nc x.cc, .string (BA x.nm), .bool x.ev, .slice x.ai x.ni x.ci] : Array Value)[0 * 9 + j]? = some u
     rw [Nat.zero_mul, Nat.zero_add, List.getElem?_toArray]
     exact hu) (fun k hk => ⟨lee (uh HG6).2.2.1 hk.1.1, hk.1.2, fun e => by have := hk.1.1; have := (uh HG6).2.2.2; omega⟩))
 have HW8 := hide hW8
 have HW9 := hide hW9
 have HW10 := hide hW10
 have HW11 := hide hW11
 have HW12 := hide hW12
 have HG2E := hide hg2
 have HG3E := hide hg3
 have HS8 := hide hs8
 have HS10 : Hid (W10.heap.size = g3) := hide hg3.symm
 have x4 : W8.cell? ⟨g2, 4, none⟩ = some (.slice x.ar x.nr x.cr) := j8.cell 4 rfl
 have y4 : W8.cell? ⟨g1, 4, none⟩ = some (.slice none 0 0) := k8.cell 4 rfl
 have yf : W8.frozen? ⟨g1, 4, none⟩ = false := k8.frozen 4
 have x5 : (W8.setCell ⟨g1, 4, none⟩ (.slice x.ar x.nr x.cr)).cell? ⟨g2, 4, none⟩ = some (.slice x.ar x.nr x.cr) := by rw [← hW9]; exact j9.cell 4 rfl
 have xf : (W8.setCell ⟨g1, 4, none⟩ (.slice x.ar x.nr x.cr)).frozen? ⟨g2, 4, none⟩ = false := by rw [← hW9]; exact j9.frozen 4
 have HJ10 := hide j10
 have HK11 := hide k11
 have HK12 := hide k12
 clear hW8 hW9 hW10 hW11 hW12 hg2 hg3 b8 hs8 f9 hs9 f10 hs10 b11 hs11 f12 R8 k8 j8 k9 j9 k10 j10 k11 k12 hkeep k7 h67 hcm7 hg16 hgb hgn R6 R7 HG HCC HK6
 go_upto_region 6 with fail
 rw [← uh HG2E, ← uh HW8]
 go_upto_region 7 with fail
 rw [← uh HW9, ← uh HW10]
 clear x4 y4 yf x5 xf HW8 HW9 HW10
 obtain ⟨d0, d1, d2, d3, d4, d5, d6, d7, d8⟩ := cel9 (uh HJ10)
 have y5 : (W10.alloc (.cells #[.int .i64 x.k, .bool x.no, .slice x.al x.nl x.cl, .slice x.aw x.nw x.cw, .slice none 0 0, .slice x.ac x.nc x.cc, .string (BA x.nm), .bool x.ev, .slice x.ai x.ni x.ci] 33)).cell? ⟨g1, 5, none⟩ = some (.slice none 0 0) := by rw [← uh HW11]; exact (uh HK11).cell 5 rfl
 have yg : (W10.alloc (.cells #[.int .i64 x.k, .bool x.no, .slice x.al x.nl x.cl, .slice x.aw x.nw x.cw, .slice none 0 0, .slice x.ac x.nc x.cc, .string (BA x.nm), .bool x.ev, .slice x.ai x.ni x.ci] 33)).frozen? ⟨g1, 5, none⟩ = false := by rw [← uh HW11]; exact (uh HK11).frozen 5
 go_upto_region 8 with fail
 rw [← uh HG3E, ← uh HW11, ← uh HW12]
 clear d0 d1 d2 d3 d4 d5 d6 d7 d8 y5 yg HW11 HW12 HG3E HS10 HG2E HS8 HJ10 HK11
 obtain ⟨c0, c1, c2, c3, c4, c5, c6, c7, c8⟩ := cel9 (uh HK12)
 obtain ⟨z0, z1, z2, z3, z4, z5, z6, z7, z8⟩ := cel9 (uh R12).res
 have zf : ∀ i, W12.frozen? ⟨nb, i, none⟩ = false := fun i => (uh R12).res.frozen i
 clear R12 HK12
 go_wp2
 refine bodyPost_ret (results_cell_row (P := Tryz.prog) rfl _ _ nb 33 _ (0, 0) _ rfl (uh HFIN).1 Tryz.underlying33 rfl (by kernel_rfl)) rfl ⟨⟨13, false, none, 0, 0, none, 0, 0, x.ar, x.nr, x.cr, some ⟨g3, 0, none⟩, 1, 1, m, false, none, 0, 0⟩, rfl, hide (by rw [uh HR]; exact (uh HFIN).2)⟩
theorem pseq_one (w : World) (A : Nat → Prop) (g : Nat) (cur : Array Value) (cap : Nat) (c : Cm) (x : CV) (hk : Blk w g 33 cur) (hx : CmAt w A c x.l) (hc : ∀ (j : Nat) (u : Value), x.l[j]? = some u → cur[j]? = some u) (hA : ∀ k, A k → k < w.heap.size) : Calls Tryz.prog 42 #[.slice (some ⟨g, 0, none⟩) 1 cap] w fun e w' => ∃ x : CV, e = .returned (.agg #[.int .i64 x.k, .bool x.no, .slice x.al x.nl x.cl, .slice x.aw x.nw x.cw, .slice x.ar x.nr x.cr, .slice x.ac x.nc x.cc, .string (BA x.nm), .bool x.ev, .slice x.ai x.ni x.ci]) ∧ Hid (Below w.heap.size w w' ∧ CmAt w' A (seqC [c]) x.l) := by
 obtain ⟨W1, hW1⟩ : ∃ W1, W1 = w.alloc (.cells #[.int .i64 0, .bool false, .slice none 0 0, .slice none 0 0, .slice none 0 0, .slice none 0 0, .string ⟨#[]⟩, .bool false, .slice none 0 0] 33) := ⟨_, rfl⟩
 obtain ⟨nb, hnb⟩ : ∃ nb, nb = w.heap.size := ⟨_, rfl⟩
 have b1 : Below w.heap.size w W1 := by rw [hW1]; exact (Below.refl _ w).alloc (ler _) _
 have n1 : Blk W1 nb 33 #[.int .i64 0, .bool false, .slice none 0 0, .slice none 0 0, .slice none 0 0, .slice none 0 0, .string ⟨#[]⟩, .bool false, .slice none 0 0] := by rw [hW1, hnb]; exact Blk.new _ _ _
 have k1 : Blk W1 g 33 cur := hk.below b1 hk.lt
 have c0 : W1.cell? ⟨g, 0, none⟩ = some (.int .i64 x.k) := k1.cell 0 (hc 0 _ rfl)
 have c1 : W1.cell? ⟨g, 1, none⟩ = some (.bool x.no) := k1.cell 1 (hc 1 _ rfl)
 have c2 : W1.cell? ⟨g, 2, none⟩ = some (.slice x.al x.nl x.cl) := k1.cell 2 (hc 2 _ rfl)
 have c3 : W1.cell? ⟨g, 3, none⟩ = some (.slice x.aw x.nw x.cw) := k1.cell 3 (hc 3 _ rfl)
 have c4 : W1.cell? ⟨g, 4, none⟩ = some (.slice x.ar x.nr x.cr) := k1.cell 4 (hc 4 _ rfl)
 have c5 : W1.cell? ⟨g, 5, none⟩ = some (.slice x.ac x.nc x.cc) := k1.cell 5 (hc 5 _ rfl)
 have c6 : W1.cell? ⟨g, 6, none⟩ = some (.string (BA x.nm)) := k1.cell 6 (hc 6 _ rfl)
 have c7 : W1.cell? ⟨g, 7, none⟩ = some (.bool x.ev) := k1.cell 7 (hc 7 _ rfl)
 have c8 : W1.cell? ⟨g, 8, none⟩ = some (.slice x.ai x.ni x.ci) := k1.cell 8 (hc 8 _ rfl)
 obtain ⟨z0, z1, z2, z3, z4, z5, z6, z7, z8⟩ := cel9 n1
 have zf : ∀ i, W1.frozen? ⟨nb, i, none⟩ = false := fun i => n1.frozen i
 have HFIN : Hid (Blk (L9 W1 nb (.int .i64 x.k) (.bool x.no) (.slice x.al x.nl x.cl) (.slice x.aw x.nw x.cw) (.slice x.ar x.nr x.cr) (.slice x.ac x.nc x.cc) (.string (BA x.nm)) (.bool x.ev) (.slice x.ai x.ni x.ci)) nb 33 #[.int .i64 x.k, .bool x.no, .slice x.al x.nl x.cl, .slice x.aw x.nw x.cw, .slice x.ar x.nr x.cr, .slice x.ac x.nc x.cc, .string (BA x.nm), .bool x.ev, .slice x.ai x.ni x.ci] ∧ Below w.heap.size w (L9 W1 nb (.int .i64 x.k) (.bool x.no) (.slice x.al x.nl x.cl) (.slice x.aw x.nw x.cw) (.slice x.ar x.nr x.cr) (.slice x.ac x.nc x.cc) (.string (BA x.nm)) (.bool x.ev) (.slice x.ai x.ni x.ci)) ∧ CmAt (L9 W1 nb (.int .i64 x.k) (.bool x.no) (.slice x.al x.nl x.cl) (.slice x.aw x.nw x.cw) (.slice x.ar x.nr x.cr) (.slice x.ac x.nc x.cc) (.string (BA x.nm)) (.bool x.ev) (.slice x.ai x.ni x.ci)) A (seqC [c]) (CV.l x)) := hide (by
  have g := L9_grown W1 nb (.int .i64 x.k) (.bool x.no) (.slice x.al x.nl x.cl) (.slice x.aw x.nw x.cw) (.slice x.ar x.nr x.cr) (.slice x.ac x.nc x.cc) (.string (BA x.nm)) (.bool x.ev) (.slice x.ai x.ni x.ci)
  refine ⟨L9_blk n1 _ _ _ _ _ _ _ _ _, ⟨g.os.trans b1.os, g.tape.trans b1.tape, g.output.trans b1.output, lee b1.size g.size, fun k hk => (g.block k (lle hk b1.size) (by omega)).trans (b1.block k hk)⟩, ?_⟩
  refine CmAt.kept (w := w) (A := A) hx (fun k hk => (g.block k (lle (hA k hk) b1.size) (by have := hA k hk; omega)).trans (b1.block k (hA k hk))) (fun k hk => hk))
 have HW1 := hide hW1
 have HNB := hide hnb
 clear hW1 hnb b1 n1 k1 hk hx hc hA
 go_enter Tryz.func42, Tryz.ntmps42
 go_upto_region 1 with fail
 rw [← uh HW1, ← uh HNB]
 clear HW1 HNB
 go_wp2
 refine bodyPost_ret (results_cell_row (P := Tryz.prog) rfl _ _ nb 33 _ (0, 0) _ rfl (uh HFIN).1 Tryz.underlying33 rfl (by kernel_rfl)) rfl ⟨x, rfl, hide (uh HFIN).2⟩
theorem pseq_more (w : World) (A : Nat → Prop) (ad : Option Addr) (n cap : Nat) (l : List Cm) (hn : ¬ n = 1) (hl : seqC l = .mk 5 false [] [] [] l [] false []) (hx : RowAt Kc w A (.slice ad n cap) l) (hA : ∀ k, A k → k < w.heap.size) : Calls Tryz.prog 42 #[.slice ad n cap] w fun e w' => ∃ x : CV, e = .returned (.agg #[.int .i64 x.k, .bool x.no, .slice x.al x.nl x.cl, .slice x.aw x.nw x.cw, .slice x.ar x.nr x.cr, .slice x.ac x.nc x.cc, .string (BA x.nm), .bool x.ev, .slice x.ai x.ni x.ci]) ∧ Hid (Below w.heap.size w w' ∧ CmAt w' A (seqC l) x.l) := by
 obtain ⟨W1, hW1⟩ : ∃ W1, W1 = w.alloc (.cells #[.int .i64 0, .bool false, .slice none 0 0, .slice none 0 0, .slice none 0 0, .slice none 0 0, .string ⟨#[]⟩, .bool false, .slice none 0 0] 33) := ⟨_, rfl⟩
 obtain ⟨nb, hnb⟩ : ∃ nb, nb = w.heap.size := ⟨_, rfl⟩
 have b1 : Below w.heap.size w W1 := by rw [hW1]; exact (Below.refl _ w).alloc (ler _) _
 have n1 : Blk W1 nb 33 #[.int .i64 0, .bool false, .slice none 0 0, .slice none 0 0, .slice none 0 0, .slice none 0 0, .string ⟨#[]⟩, .bool false, .slice none 0 0] := by rw [hW1, hnb]; exact Blk.new _ _ _
 obtain ⟨z0, z1, z2, z3, z4, z5, z6, z7, z8⟩ := cel9 n1
 have zf : ∀ i, W1.frozen? ⟨nb, i, none⟩ = false := fun i => n1.frozen i
 have HFIN : Hid (Blk (L9 W1 nb (.int .i64 5) (.bool false) (.slice none 0 0) (.slice none 0 0) (.slice none 0 0) (.slice ad n cap) (.string (BA [])) (.bool false) (.slice none 0 0)) nb 33 #[.int .i64 5, .bool false, .slice none 0 0, .slice none 0 0, .slice none 0 0, .slice ad n cap, .string (BA []), .bool false, .slice none 0 0] ∧ Below w.heap.size w (L9 W1 nb (.int .i64 5) (.bool false) (.slice none 0 0) (.slice none 0 0) (.slice none 0 0) (.slice ad n cap) (.string (BA [])) (.bool false) (.slice none 0 0)) ∧ CmAt (L9 W1 nb (.int .i64 5) (.bool false) (.slice none 0 0) (.slice none 0 0) (.slice none 0 0) (.slice ad n cap) (.string (BA [])) (.bool false) (.slice none 0 0)) A (seqC l) (CV.l ⟨5, false, none, 0, 0, none, 0, 0, none, 0, 0, ad, n, cap, [], false, none, 0, 0⟩)) := hide (by
  have g := L9_grown W1 nb (.int .i64 5) (.bool false) (.slice none 0 0) (.slice none 0 0) (.slice none 0 0) (.slice ad n cap) (.string (BA [])) (.bool false) (.slice none 0 0)
  refine ⟨L9_blk n1 _ _ _ _ _ _ _ _ _, ⟨g.os.trans b1.os, g.tape.trans b1.tape, g.output.trans b1.output, lee b1.size g.size, fun k hk => (g.block k (lle hk b1.size) (by omega)).trans (b1.block k hk)⟩, ?_⟩
  refine CmAt.kept (w := w) (A := A) (by rw [hl]; exact CmAt.of (nilrow _ _ _) (nilrow _ _ _) (nilrow _ _ _) hx (nilrow _ _ _)) (fun k hk => (g.block k (lle (hA k hk) b1.size) (by have := hA k hk; omega)).trans (b1.block k (hA k hk))) (fun k hk => hk))
 have HW1 := hide hW1
 have HNB := hide hnb
 have hd : ((n : Int) == 1) = false := by simp; omega
 clear hW1 hnb b1 n1 hx hA hl hn
 go_enter Tryz.func42, Tryz.ntmps42
 go_upto_region 1 with fail
 rw [← uh HW1, ← uh HNB]
 clear HW1 HNB
 go_wp2
 refine bodyPost_ret (results_cell_row (P := Tryz.prog) rfl _ _ nb 33 _ (0, 0) _ rfl (uh HFIN).1 Tryz.underlying33 rfl (by kernel_rfl)) rfl ⟨⟨5, false, none, 0, 0, none, 0, 0, none, 0, 0, ad, n, cap, [], false, none, 0, 0⟩, rfl, hide (uh HFIN).2⟩
theorem psequence_any (w : World) (A : Nat → Prop) (v : Value) (l : List Cm) (hl : l ≠ []) (h : RowAt Kc w A v l) (hA : ∀ k, A k → k < w.heap.size) : Calls Tryz.prog 42 #[v] w fun e w' => ∃ x : CV, e = .returned (.agg #[.int .i64 x.k, .bool x.no, .slice x.al x.nl x.cl, .slice x.aw x.nw x.cw, .slice x.ar x.nr x.cr, .slice x.ac x.nc x.cc, .string (BA x.nm), .bool x.ev, .slice x.ai x.ni x.ci]) ∧ Hid (Below w.heap.size w w' ∧ CmAt w' A (seqC l) x.l) := by
 have h' := h
 obtain ⟨ad, cap, rfl, h0 | ⟨g, cur, rfl, hg, hk, hx⟩⟩ := h
 ·exact absurd h0 hl
 ·match l, hl, h', hx with
  | [c], _, _, hx =>
    obtain ⟨cs, h1, h2⟩ := hx 0 c rfl
    obtain ⟨x, rfl⟩ := CmAt.cv h1
    exact pseq_one w A g cur cap c x hk h1 (fun j u hu => by have := h2 j u hu; simpa using this) hA
  | c :: d :: r, _, h', _ => exact pseq_more w A _ _ cap (c :: d :: r) (by simp) rfl h' hA
theorem gapN_le : ∀ (n : Nat) (s : Pz), (Pz.gapN n s).toks.length ≤ s.toks.length
 | 0, _ => ler _
 | n + 1, s => by
   unfold Pz.gapN
   split
   ·exact lee (gapN_le n _) (take_le s)
   ·exact ler _
theorem gap_le (s : Pz) : s.gap.toks.length ≤ s.toks.length := gapN_le _ s
theorem name_le (s : Pz) : s.name.2.toks.length ≤ s.toks.length := by
 unfold Pz.name
 refine lee (take_le _) ?_
 split
 ·exact ler _
 ·exact misfit_le s
theorem wantWord_le (s : Pz) : s.wantWord.2.toks.length ≤ s.toks.length := by
 unfold Pz.wantWord
 refine lee (take_le _) ?_
 split
 ·exact ler _
 ·exact misfit_le s
theorem word_le (s : Pz) : s.word.2.toks.length ≤ s.toks.length := by
 have h := wantWord_le s
 unfold Pz.word Pz.parts
 refine lee ?_ h
 dsimp only
 split
 ·exact ler _
 ·exact fail_le _ _ _
theorem wordsN_le : ∀ (n : Nat) (s : Pz), (Pz.wordsN n s).2.toks.length ≤ s.toks.length
 | 0, _ => ler _
 | n + 1, s => by
   unfold Pz.wordsN
   split
   ·exact lee (wordsN_le n _) (word_le s)
   ·exact ler _
theorem words_le (s : Pz) : s.words.2.toks.length ≤ s.toks.length := wordsN_le _ s
theorem endS_le (s : Pz) : s.endS.toks.length ≤ s.toks.length := by
 unfold Pz.endS
 split
 ·exact lee (gap_le _) (take_le s)
 ·exact ler _
theorem endS_no (s : Pz) (h : s.ends = false) : s.endS = s := by
 unfold Pz.endS
 rw [h]
 rfl
theorem peach_any (w : World) (b : Nat) (mp : Value) (s : Pz) (H : PzAt w b mp s) (he : PEnv w) (hb : 7 ≤ b) (hm : MpAt w b mp) (lst : Pz → Cm × Pz) (N : Nat) (HL : LstAt b mp lst N) (hN : s.take.toks.length < N) : Reads 37 b mp (Pz.each lst) w s := by
 obtain ⟨W1, hW1⟩ : ∃ W1, W1 = w.alloc (.cells #[.int .i64 0, .bool false, .slice none 0 0, .slice none 0 0, .slice none 0 0, .slice none 0 0, .string ⟨#[]⟩, .bool false, .slice none 0 0] 33) := ⟨_, rfl⟩
 obtain ⟨nb, hnb⟩ : ∃ nb, nb = w.heap.size := ⟨_, rfl⟩
 have R1 : Hid (RS w W1 b nb mp 33 #[.int .i64 0, .bool false, .slice none 0 0, .slice none 0 0, .slice none 0 0, .slice none 0 0, .string ⟨#[]⟩, .bool false, .slice none 0 0] s) := hide (by rw [hW1, hnb]; exact rs_begin H he hb)
 have HM : Hid (∀ W, Fr w W b → MpAt W b mp) := hide (fun W h => hm.fr h)
 have HW1 := hide hW1
 have HNB := hide hnb
 have HTK := hide (ptake_any W1 b mp s (uh R1).pz)
 obtain ⟨m, hmm⟩ : ∃ m, m = s.take.name.1 := ⟨_, rfl⟩
 obtain ⟨s1, hs1⟩ : ∃ s1, s1 = s.take.name.2 := ⟨_, rfl⟩
 obtain ⟨ev, hev⟩ : ∃ ev, ev = s1.sees [Pz.semi] := ⟨_, rfl⟩
 obtain ⟨S5, hS5⟩ : ∃ S5, S5 = (s1.skips Pz.semi).gap := ⟨_, rfl⟩
 have HLN : Hid (S5.toks.length < N) := hide (by
  rw [hS5, hs1]
  exact Nat.lt_of_le_of_lt (lee (gap_le _) (lee (skips_le _ _) (name_le _))) hN)
 have HS1 := hide hs1
 have HMM := hide hmm
 have HEV := hide hev
 have HS5 := hide hS5
 unfold Reads
 obtain ⟨R, hR⟩ : ∃ R, R = s.each lst := ⟨_, rfl⟩
 have HR : Hid (R = if !ev && S5.sees [kIn] then (.mk 11 false [] S5.take.words.1 [] [((if S5.take.words.2.ends then S5.take.words.2.endS else S5.take.words.2.misfit).doGroup lst).1] m false [], ((if S5.take.words.2.ends then S5.take.words.2.endS else S5.take.words.2.misfit).doGroup lst).2) else (.mk 11 false [] [] [] [(S5.doGroup lst).1] m true [], (S5.doGroup lst).2)) := hide (by rw [hR, hS5, hev, hs1, hmm]; rfl)
 rw [← hR]
 have HLL := hide HL
 clear hR hW1 hnb H he hm hmm hs1 hev hS5 HL hN
 go_enter Tryz.func37, Tryz.ntmps37
 go_upto_region 1 with fail
 rw [← uh HW1, ← uh HNB]
 clear HW1 HNB
 go_wp2_with fail
 refine (uh HTK).mono ?_
 rintro e w2 ⟨rfl, p2, f2⟩
 have R2 := hide ((uh R1).step p2 f2)
 have HNM := hide (pname_any w2 b mp s.take p2)
 rw [← uh HMM, ← uh HS1] at HNM
 clear p2 f2 R1 HTK
 go_wp2_with fail
 refine (uh HNM).mono ?_
 rintro e w3 ⟨rfl, p3, f3⟩
 have R3 := hide ((uh R2).step p3 f3)
 obtain ⟨g1, hg1⟩ : ∃ g1, g1 = w3.heap.size := ⟨_, rfl⟩
 obtain ⟨W4, hW4⟩ : ∃ W4, W4 = w3.alloc (.cells #[.int .i64 11, .bool false, .slice none 0 0, .slice none 0 0, .slice none 0 0, .slice none 0 0, .string (BA m), .bool false, .slice none 0 0] 33) := ⟨_, rfl⟩
 have b4 : Below w3.heap.size w3 W4 := by rw [hW4]; exact (Below.refl _ w3).alloc (ler _) _
 have R4 := hide ((uh R3).below b4)
 have HK4 : Hid (Blk W4 g1 33 #[.int .i64 11, .bool false, .slice none 0 0, .slice none 0 0, .slice none 0 0, .slice none 0 0, .string (BA m), .bool false, .slice none 0 0]) := hide (by rw [hW4, hg1]; exact Blk.new _ _ _)
 have HG1 : Hid (b < g1 ∧ nb < g1 ∧ w.heap.size ≤ g1) := hide ⟨by rw [hg1]; exact p3.lt, by rw [hg1]; exact (uh R3).res.lt, by rw [hg1]; exact (uh R3).fr.size⟩
 have HW4 := hide hW4
 have HGG := hide hg1
 have HSK := hide (pskip_any W4 b mp s1 Pz.semi (uh R4).pz)
 rw [← uh HEV] at HSK
 clear hW4 hg1 b4 p3 f3 R2 R3 HNM
 go_upto_region 3 with fail
 rw [← uh HGG, ← uh HW4]
 clear HGG HW4
 go_wp2_with fail
 refine (uh HSK).mono ?_
 rintro e w5 ⟨rfl, p5, f5⟩
 have R5 := (uh R4).step p5 f5
 have k5 := (uh HK4).grownS f5 (fun e => by have := (uh HG1).1; omega)
 obtain ⟨W6, hW6⟩ : ∃ W6, W6 = w5.setCell ⟨g1, 7, none⟩ (.bool ev) := ⟨_, rfl⟩
 have f6 : GrownS w5 W6 (fun k => k = g1) := by rw [hW6]; exact fr_set w5 g1 7 _
 have k6 : Blk W6 g1 33 #[.int .i64 11, .bool false, .slice none 0 0, .slice none 0 0, .slice none 0 0, .slice none 0 0, .string (BA m), .bool ev, .slice none 0 0] := by
  have := k5.set 7 (.bool ev)
  simp only [List.setIfInBounds_toArray, List.set_cons_zero, List.set_cons_succ] at this
  rw [hW6]; exact this
 have R6 := hide (R5.turn f6 (uh HG1).2.1)
 have HK6 := hide k6
 have HW6 := hide hW6
 have x7 : w5.cell? ⟨g1, 7, none⟩ = some (.bool false) := k5.cell 7 rfl
 have xf : w5.frozen? ⟨g1, 7, none⟩ = false := k5.frozen 7
 have HGP := hide (pgap_any W6 b mp (s1.skips Pz.semi) (uh R6).pz)
 rw [← uh HS5] at HGP
 clear hW6 f6 k6 k5 R5 p5 f5 R4 HK4 HSK
 go_upto_region 4 with fail
 rw [← uh HW6]
 clear HW6 x7 xf
 go_wp2_with fail
 refine (uh HGP).mono ?_
 rintro e w7 ⟨rfl, p7, f7⟩
 have R7 := hide ((uh R6).step p7 f7)
 have HK7 := hide ((uh HK6).grownS f7 (fun e => by have := (uh HG1).1; omega))
 have x7 : w7.cell? ⟨g1, 7, none⟩ = some (.bool ev) := (uh HK7).cell 7 rfl
 have HSI := hide (pskip_any w7 b mp S5 kIn p7)
 clear p7 f7 R6 HK6 HGP
 cases ev with
 | true =>
   have HRT : Hid (R = (.mk 11 false [] [] [] [(S5.doGroup lst).1] m true [], (S5.doGroup lst).2)) := hide (by rw [uh HR]; rfl)
   clear HR HSI HEV
   go_upto_region 9 with fail
   have RW := R7
   have HKW := HK7
   clear R7 HK7 x7
   obtain ⟨WB, hWB⟩ : ∃ WB, WB = w7.setCell ⟨g1, 7, none⟩ (.bool true) := ⟨_, rfl⟩
   have fB : GrownS w7 WB (fun k => k = g1) := by rw [hWB]; exact fr_set w7 g1 7 _
   have kB0 := uh HKW
   have kB : Blk WB g1 33 #[.int .i64 11, .bool false, .slice none 0 0, .slice none 0 0, .slice none 0 0, .slice none 0 0, .string (BA m), .bool true, .slice none 0 0] := by
    have := kB0.set 7 (.bool true)
    simp only [List.setIfInBounds_toArray, List.set_cons_zero, List.set_cons_succ] at this
    rw [hWB]; exact this
   have RT := hide ((uh RW).turn fB (uh HG1).2.1)
   have KT := hide kB
   have HRW : Hid (RowAt Kw WB (fun k => g1 < k ∧ k < WB.heap.size) (.slice none 0 0) []) := hide (nilrow _ _ _)
   have HWBE := hide hWB
   have e7 : w7.cell? ⟨g1, 7, none⟩ = some (.bool true) := kB0.cell 7 rfl
   have ef : w7.frozen? ⟨g1, 7, none⟩ = false := kB0.frozen 7
   clear hWB fB kB0 kB RW HKW
   go_upto_region 10 with fail
   rw [← uh HWBE]
   clear HWBE e7 ef
   have HDG := hide (pdoGroup_any WB b mp S5 (uh RT).pz (uh RT).env (uh RT).old (uh HM WB (uh RT).fr) lst N (uh HLL) (uh HLN))
   have HGT : Hid (g1 < WB.heap.size ∧ w.heap.size ≤ WB.heap.size) := hide ⟨(uh KT).lt, (uh RT).fr.size⟩
   unfold Reads at HDG
   go_wp2_with fail
   refine (uh HDG).mono ?_
   rintro e w9 ⟨x, rfl, HG⟩
   have R9 := hide ((uh RT).step (uh HG).pz (uh HG).fr)
   have k9 := (uh KT).grownS (uh HG).fr (fun e => by have := (uh HG1).1; omega)
   obtain ⟨g2, hg2⟩ : ∃ g2, g2 = w9.heap.size := ⟨_, rfl⟩
   obtain ⟨W10, hW10⟩ : ∃ W10, W10 = w9.alloc (.cells #[.int .i64 x.k, .bool x.no, .slice x.al x.nl x.cl, .slice x.aw x.nw x.cw, .slice x.ar x.nr x.cr, .slice x.ac x.nc x.cc, .string (BA x.nm), .bool x.ev, .slice x.ai x.ni x.ci] 33) := ⟨_, rfl⟩
   obtain ⟨W11, hW11⟩ : ∃ W11, W11 = W10.setCell ⟨g1, 5, none⟩ (.slice (some ⟨g2, 0, none⟩) 1 1) := ⟨_, rfl⟩
   have b10 : Below w9.heap.size w9 W10 := by rw [hW10]; exact (Below.refl _ w9).alloc (ler _) _
   have hs10 : W10.heap.size = g2 + 1 := by rw [hW10, hg2]; simp
   have f11 : GrownS W10 W11 (fun k => k = g1) := by rw [hW11]; exact fr_set W10 g1 5 _
   have k10 : Blk W10 g1 33 #[.int .i64 11, .bool false, .slice none 0 0, .slice none 0 0, .slice none 0 0, .slice none 0 0, .string (BA m), .bool true, .slice none 0 0] := k9.below b10 k9.lt
   have k11 : Blk W11 g1 33 #[.int .i64 11, .bool false, .slice none 0 0, .slice none 0 0, .slice none 0 0, .slice (some ⟨g2, 0, none⟩) 1 1, .string (BA m), .bool true, .slice none 0 0] := by
    have := k10.set 5 (.slice (some ⟨g2, 0, none⟩) 1 1)
    simp only [List.setIfInBounds_toArray, List.set_cons_zero, List.set_cons_succ] at this
    rw [hW11]; exact this
   have hgn := (uh HG1).2.1
   have hgw := (uh HG1).2.2
   have hgb := (uh HG1).1
   have hgT := (uh HGT).1
   have h9 := (uh HG).fr.size
   have hs11 : W11.heap.size = g2 + 1 := by rw [hW11]; simp [World.setCell, hs10]
   have R11 := hide (((uh R9).below b10).turn f11 hgn)
   have HFIN := hide ((uh R11).fin (x := ⟨11, false, none, 0, 0, none, 0, 0, none, 0, 0, some ⟨g2, 0, none⟩, 1, 1, m, true, none, 0, 0⟩) (A := fun k => g1 < k ∧ k < W11.heap.size) (c := .mk 11 false [] [] [] [((S5).doGroup lst).1] m true []) (CmAt.of (nilrow _ _ _) ((uh HRW).kept (fun k hk => ((f11.block k (by have := hk.2; omega) (by have := hk.1; omega)).trans (b10.block k (by have := hk.2; omega))).trans ((uh HG).fr.block k hk.2 (by have := hk.1; omega))) (fun k hk => ⟨hk.1, by have := hk.2; omega⟩)) (nilrow _ _ _) (by
    have h1 := one_row (uh HG).cm h9
    rw [← hW10, ← hg2] at h1
    exact h1.kept (fun k hk => f11.block k hk.2 (by have := hk.1; omega)) (fun k hk => ⟨by have := hk.1; omega, by have := hk.2; omega⟩)) (nilrow _ _ _)) (fun k hk => ⟨by have := hk.1; omega, hk.2, by have := hk.1; omega⟩))
   have y5 : (w9.alloc (.cells #[.int .i64 x.k, .bool x.no, .slice x.al x.nl x.cl, .slice x.aw x.nw x.cw, .slice x.ar x.nr x.cr, .slice x.ac x.nc x.cc, .string (BA x.nm), .bool x.ev, .slice x.ai x.ni x.ci] 33)).cell? ⟨g1, 5, none⟩ = some (.slice none 0 0) := by rw [← hW10]; exact k10.cell 5 rfl
   have yg : (w9.alloc (.cells #[.int .i64 x.k, .bool x.no, .slice x.al x.nl x.cl, .slice x.aw x.nw x.cw, .slice x.ar x.nr x.cr, .slice x.ac x.nc x.cc, .string (BA x.nm), .bool x.ev, .slice x.ai x.ni x.ci] 33)).frozen? ⟨g1, 5, none⟩ = false := by rw [← hW10]; exact k10.frozen 5
   have HK11 := hide k11
   have HW10 := hide hW10
   have HW11 := hide hW11
   have HG2E := hide hg2
   clear hW10 hW11 hg2 b10 hs10 f11 k9 k10 k11 hgn hgw hgb hgT h9 hs11 R9 HDG RT KT HG HRW HGT
   go_upto_region 11 with fail
   rw [← uh HG2E, ← uh HW10, ← uh HW11]
   clear y5 yg HW10 HW11 HG2E
   obtain ⟨c0, c1, c2, c3, c4, c5, c6, c7, c8⟩ := cel9 (uh HK11)
   obtain ⟨z0, z1, z2, z3, z4, z5, z6, z7, z8⟩ := cel9 (uh R11).res
   have zf : ∀ i, W11.frozen? ⟨nb, i, none⟩ = false := fun i => (uh R11).res.frozen i
   clear R11 HK11
   go_wp2
   refine bodyPost_ret (results_cell_row (P := Tryz.prog) rfl _ _ nb 33 _ (0, 0) _ rfl (uh HFIN).1 Tryz.underlying33 rfl (by kernel_rfl)) rfl ⟨⟨11, false, none, 0, 0, none, 0, 0, none, 0, 0, some ⟨g2, 0, none⟩, 1, 1, m, true, none, 0, 0⟩, rfl, hide (by rw [uh HRT]; exact (uh HFIN).2)⟩
 | false =>
   go_wp2_with fail
   refine (uh HSI).mono ?_
   rintro e w8 ⟨rfl, p8, f8⟩
   have R8 := hide ((uh R7).step p8 f8)
   have HK8 := hide ((uh HK7).grownS f8 (fun e => by have := (uh HG1).1; omega))
   obtain ⟨si, hsi⟩ : ∃ si, si = S5.sees [kIn] := ⟨_, rfl⟩
   rw [← hsi] at HR ⊢
   clear p8 f8 R7 HK7 HSI x7
   cases si with
   | false =>
     have hsk : S5.skips kIn = S5 := by unfold Pz.skips; rw [← hsi]; rfl
     rw [hsk] at R8
     have HRT : Hid (R = (.mk 11 false [] [] [] [(S5.doGroup lst).1] m true [], (S5.doGroup lst).2)) := hide (by rw [uh HR]; rfl)
     clear HR HEV hsi hsk
     go_upto_region 9 with fail
     have RW := R8
     have HKW := HK8
     clear R8 HK8
     obtain ⟨WB, hWB⟩ : ∃ WB, WB = w8.setCell ⟨g1, 7, none⟩ (.bool true) := ⟨_, rfl⟩
     have fB : GrownS w8 WB (fun k => k = g1) := by rw [hWB]; exact fr_set w8 g1 7 _
     have kB0 := uh HKW
     have kB : Blk WB g1 33 #[.int .i64 11, .bool false, .slice none 0 0, .slice none 0 0, .slice none 0 0, .slice none 0 0, .string (BA m), .bool true, .slice none 0 0] := by
      have := kB0.set 7 (.bool true)
      simp only [List.setIfInBounds_toArray, List.set_cons_zero, List.set_cons_succ] at this
      rw [hWB]; exact this
     have RT := hide ((uh RW).turn fB (uh HG1).2.1)
     have KT := hide kB
     have HRW : Hid (RowAt Kw WB (fun k => g1 < k ∧ k < WB.heap.size) (.slice none 0 0) []) := hide (nilrow _ _ _)
     have HWBE := hide hWB
     have e7 : w8.cell? ⟨g1, 7, none⟩ = some (.bool false) := kB0.cell 7 rfl
     have ef : w8.frozen? ⟨g1, 7, none⟩ = false := kB0.frozen 7
     clear hWB fB kB0 kB RW HKW
     go_upto_region 10 with fail
     rw [← uh HWBE]
     clear HWBE e7 ef
     have HDG := hide (pdoGroup_any WB b mp S5 (uh RT).pz (uh RT).env (uh RT).old (uh HM WB (uh RT).fr) lst N (uh HLL) (uh HLN))
     have HGT : Hid (g1 < WB.heap.size ∧ w.heap.size ≤ WB.heap.size) := hide ⟨(uh KT).lt, (uh RT).fr.size⟩
     unfold Reads at HDG
     go_wp2_with fail
     refine (uh HDG).mono ?_
     rintro e w9 ⟨x, rfl, HG⟩
     have R9 := hide ((uh RT).step (uh HG).pz (uh HG).fr)
     have k9 := (uh KT).grownS (uh HG).fr (fun e => by have := (uh HG1).1; omega)
     obtain ⟨g2, hg2⟩ : ∃ g2, g2 = w9.heap.size := ⟨_, rfl⟩
     obtain ⟨W10, hW10⟩ : ∃ W10, W10 = w9.alloc (.cells #[.int .i64 x.k, .bool x.no, .slice x.al x.nl x.cl, .slice x.aw x.nw x.cw, .slice x.ar x.nr x.cr, .slice x.ac x.nc x.cc, .string (BA x.nm), .bool x.ev, .slice x.ai x.ni x.ci] 33) := ⟨_, rfl⟩
     obtain ⟨W11, hW11⟩ : ∃ W11, W11 = W10.setCell ⟨g1, 5, none⟩ (.slice (some ⟨g2, 0, none⟩) 1 1) := ⟨_, rfl⟩
     have b10 : Below w9.heap.size w9 W10 := by rw [hW10]; exact (Below.refl _ w9).alloc (ler _) _
     have hs10 : W10.heap.size = g2 + 1 := by rw [hW10, hg2]; simp
     have f11 : GrownS W10 W11 (fun k => k = g1) := by rw [hW11]; exact fr_set W10 g1 5 _
     have k10 : Blk W10 g1 33 #[.int .i64 11, .bool false, .slice none 0 0, .slice none 0 0, .slice none 0 0, .slice none 0 0, .string (BA m), .bool true, .slice none 0 0] := k9.below b10 k9.lt
     have k11 : Blk W11 g1 33 #[.int .i64 11, .bool false, .slice none 0 0, .slice none 0 0, .slice none 0 0, .slice (some ⟨g2, 0, none⟩) 1 1, .string (BA m), .bool true, .slice none 0 0] := by
      have := k10.set 5 (.slice (some ⟨g2, 0, none⟩) 1 1)
      simp only [List.setIfInBounds_toArray, List.set_cons_zero, List.set_cons_succ] at this
      rw [hW11]; exact this
     have hgn := (uh HG1).2.1
     have hgw := (uh HG1).2.2
     have hgb := (uh HG1).1
     have hgT := (uh HGT).1
     have h9 := (uh HG).fr.size
     have hs11 : W11.heap.size = g2 + 1 := by rw [hW11]; simp [World.setCell, hs10]
     have R11 := hide (((uh R9).below b10).turn f11 hgn)
     have HFIN := hide ((uh R11).fin (x := ⟨11, false, none, 0, 0, none, 0, 0, none, 0, 0, some ⟨g2, 0, none⟩, 1, 1, m, true, none, 0, 0⟩) (A := fun k => g1 < k ∧ k < W11.heap.size) (c := .mk 11 false [] [] [] [((S5).doGroup lst).1] m true []) (CmAt.of (nilrow _ _ _) ((uh HRW).kept (fun k hk => ((f11.block k (by have := hk.2; omega) (by have := hk.1; omega)).trans (b10.block k (by have := hk.2; omega))).trans ((uh HG).fr.block k hk.2 (by have := hk.1; omega))) (fun k hk => ⟨hk.1, by have := hk.2; omega⟩)) (nilrow _ _ _) (by
      have h1 := one_row (uh HG).cm h9
      rw [← hW10, ← hg2] at h1
      exact h1.kept (fun k hk => f11.block k hk.2 (by have := hk.1; omega)) (fun k hk => ⟨by have := hk.1; omega, by have := hk.2; omega⟩)) (nilrow _ _ _)) (fun k hk => ⟨by have := hk.1; omega, hk.2, by have := hk.1; omega⟩))
     have y5 : (w9.alloc (.cells #[.int .i64 x.k, .bool x.no, .slice x.al x.nl x.cl, .slice x.aw x.nw x.cw, .slice x.ar x.nr x.cr, .slice x.ac x.nc x.cc, .string (BA x.nm), .bool x.ev, .slice x.ai x.ni x.ci] 33)).cell? ⟨g1, 5, none⟩ = some (.slice none 0 0) := by rw [← hW10]; exact k10.cell 5 rfl
     have yg : (w9.alloc (.cells #[.int .i64 x.k, .bool x.no, .slice x.al x.nl x.cl, .slice x.aw x.nw x.cw, .slice x.ar x.nr x.cr, .slice x.ac x.nc x.cc, .string (BA x.nm), .bool x.ev, .slice x.ai x.ni x.ci] 33)).frozen? ⟨g1, 5, none⟩ = false := by rw [← hW10]; exact k10.frozen 5
     have HK11 := hide k11
     have HW10 := hide hW10
     have HW11 := hide hW11
     have HG2E := hide hg2
     clear hW10 hW11 hg2 b10 hs10 f11 k9 k10 k11 hgn hgw hgb hgT h9 hs11 R9 HDG RT KT HG HRW HGT
     go_upto_region 11 with fail
     rw [← uh HG2E, ← uh HW10, ← uh HW11]
     clear y5 yg HW10 HW11 HG2E
     obtain ⟨c0, c1, c2, c3, c4, c5, c6, c7, c8⟩ := cel9 (uh HK11)
     obtain ⟨z0, z1, z2, z3, z4, z5, z6, z7, z8⟩ := cel9 (uh R11).res
     have zf : ∀ i, W11.frozen? ⟨nb, i, none⟩ = false := fun i => (uh R11).res.frozen i
     clear R11 HK11
     go_wp2
     refine bodyPost_ret (results_cell_row (P := Tryz.prog) rfl _ _ nb 33 _ (0, 0) _ rfl (uh HFIN).1 Tryz.underlying33 rfl (by kernel_rfl)) rfl ⟨⟨11, false, none, 0, 0, none, 0, 0, none, 0, 0, some ⟨g2, 0, none⟩, 1, 1, m, true, none, 0, 0⟩, rfl, hide (by rw [uh HRT]; exact (uh HFIN).2)⟩
   | true =>
     have hsk : S5.skips kIn = S5.take := by unfold Pz.skips; rw [← hsi]; rfl
     rw [hsk] at R8
     clear HEV hsi hsk
     obtain ⟨ws, hws⟩ : ∃ ws, ws = S5.take.words.1 := ⟨_, rfl⟩
     obtain ⟨s2, hs2⟩ : ∃ s2, s2 = S5.take.words.2 := ⟨_, rfl⟩
     have HWD := hide (pwords_any w8 b mp S5.take (uh R8).pz (uh R8).env (uh R8).old)
     have HL2 : Hid (s2.toks.length < N) := hide (by rw [hs2]; exact Nat.lt_of_le_of_lt (lee (words_le _) (take_le _)) (uh HLN))
     have HG8 : Hid (g1 < w8.heap.size) := hide (uh HK8).lt
     rw [← hws, ← hs2] at HWD HR
     clear hws hs2
     go_wp2_with fail
     refine (uh HWD).mono ?_
     rintro e w12 ⟨v, rfl, hrow, p12, f12⟩
     have hrow' := hrow
     obtain ⟨aw, cw, rfl, _⟩ := hrow'
     obtain ⟨nw, hnw⟩ : ∃ nw, nw = ws.length := ⟨_, rfl⟩
     rw [← hnw] at hrow ⊢
     obtain ⟨W13, hW13⟩ : ∃ W13, W13 = w12.setCell ⟨g1, 3, none⟩ (.slice aw nw cw) := ⟨_, rfl⟩
     have f13 : GrownS w12 W13 (fun k => k = g1) := by rw [hW13]; exact fr_set w12 g1 3 _
     have k12 := (uh HK8).grownS f12 (fun e => by have := (uh HG1).1; omega)
     have k13 : Blk W13 g1 33 #[.int .i64 11, .bool false, .slice none 0 0, .slice aw nw cw, .slice none 0 0, .slice none 0 0, .string (BA m), .bool false, .slice none 0 0] := by
      have := k12.set 3 (.slice aw nw cw)
      simp only [List.setIfInBounds_toArray, List.set_cons_zero, List.set_cons_succ] at this
      rw [hW13]; exact this
     have R13 := hide (((uh R8).step p12 f12).turn f13 (uh HG1).2.1)
     have HRW13 : Hid (RowAt Kw W13 (fun k => g1 < k ∧ k < W13.heap.size) (.slice aw nw cw) ws) := hide (hrow.kept (fun k hk => f13.block k hk.2 (by have := hk.1; have := uh HG8; omega)) (fun k hk => ⟨by have := hk.1; have := uh HG8; omega, lle hk.2 f13.size⟩))
     have HK13 := hide k13
     have HW13 := hide hW13
     have x3 : w12.cell? ⟨g1, 3, none⟩ = some (.slice none 0 0) := k12.cell 3 rfl
     have xf : w12.frozen? ⟨g1, 3, none⟩ = false := k12.frozen 3
     have HEN := hide (pend_any W13 b mp s2 (uh R13).pz)
     clear hW13 f13 k12 k13 hrow p12 f12 R8 HK8 HWD hnw
     go_upto_region 7 with fail
     rw [← uh HW13]
     clear HW13 x3 xf
     go_wp2_with fail
     refine (uh HEN).mono ?_
     rintro e w14 ⟨rfl, p14, f14⟩
     have R14 := hide ((uh R13).step p14 f14)
     have HK14 := hide ((uh HK13).grownS f14 (fun e => by have := (uh HG1).1; omega))
     have HRW14 : Hid (RowAt Kw w14 (fun k => g1 < k ∧ k < w14.heap.size) (.slice aw nw cw) ws) := hide ((uh HRW13).kept (fun k hk => f14.block k hk.2 (by have := hk.1; have := (uh HG1).1; omega)) (fun k hk => ⟨hk.1, lle hk.2 f14.size⟩))
     obtain ⟨en, hen⟩ : ∃ en, en = s2.ends := ⟨_, rfl⟩
     rw [← hen] at HR ⊢
     clear p14 f14 R13 HK13 HRW13 HEN
     cases en with
     | true =>
       obtain ⟨S7, hS7⟩ : ∃ S7, S7 = s2.endS := ⟨_, rfl⟩
       have HRT : Hid (R = (.mk 11 false [] ws [] [(S7.doGroup lst).1] m false [], (S7.doGroup lst).2)) := hide (by rw [uh HR, hS7]; rfl)
       have HL7 : Hid (S7.toks.length < N) := hide (by rw [hS7]; exact Nat.lt_of_le_of_lt (endS_le _) (uh HL2))
       rw [← hS7] at R14
       have RT := R14
       have KT := HK14
       have HRW := HRW14
       clear hS7 hen HR R14 HK14 HRW14
       go_upto_region 10 with fail
       have HDG := hide (pdoGroup_any w14 b mp S7 (uh RT).pz (uh RT).env (uh RT).old (uh HM w14 (uh RT).fr) lst N (uh HLL) (uh HL7))
       have HGT : Hid (g1 < w14.heap.size ∧ w.heap.size ≤ w14.heap.size) := hide ⟨(uh KT).lt, (uh RT).fr.size⟩
       unfold Reads at HDG
       go_wp2_with fail
       refine (uh HDG).mono ?_
       rintro e w9 ⟨x, rfl, HG⟩
       have R9 := hide ((uh RT).step (uh HG).pz (uh HG).fr)
       have k9 := (uh KT).grownS (uh HG).fr (fun e => by have := (uh HG1).1; omega)
       obtain ⟨g2, hg2⟩ : ∃ g2, g2 = w9.heap.size := ⟨_, rfl⟩
       obtain ⟨W10, hW10⟩ : ∃ W10, W10 = w9.alloc (.cells #[.int .i64 x.k, .bool x.no, .slice x.al x.nl x.cl, .slice x.aw x.nw x.cw, .slice x.ar x.nr x.cr, .slice x.ac x.nc x.cc, .string (BA x.nm), .bool x.ev, .slice x.ai x.ni x.ci] 33) := ⟨_, rfl⟩
       obtain ⟨W11, hW11⟩ : ∃ W11, W11 = W10.setCell ⟨g1, 5, none⟩ (.slice (some ⟨g2, 0, none⟩) 1 1) := ⟨_, rfl⟩
       have b10 : Below w9.heap.size w9 W10 := by rw [hW10]; exact (Below.refl _ w9).alloc (ler _) _
       have hs10 : W10.heap.size = g2 + 1 := by rw [hW10, hg2]; simp
       have f11 : GrownS W10 W11 (fun k => k = g1) := by rw [hW11]; exact fr_set W10 g1 5 _
       have k10 : Blk W10 g1 33 #[.int .i64 11, .bool false, .slice none 0 0, .slice aw nw cw, .slice none 0 0, .slice none 0 0, .string (BA m), .bool false, .slice none 0 0] := k9.below b10 k9.lt
       have k11 : Blk W11 g1 33 #[.int .i64 11, .bool false, .slice none 0 0, .slice aw nw cw, .slice none 0 0, .slice (some ⟨g2, 0, none⟩) 1 1, .string (BA m), .bool false, .slice none 0 0] := by
        have := k10.set 5 (.slice (some ⟨g2, 0, none⟩) 1 1)
        simp only [List.setIfInBounds_toArray, List.set_cons_zero, List.set_cons_succ] at this
        rw [hW11]; exact this
       have hgn := (uh HG1).2.1
       have hgw := (uh HG1).2.2
       have hgb := (uh HG1).1
       have hgT := (uh HGT).1
       have h9 := (uh HG).fr.size
       have hs11 : W11.heap.size = g2 + 1 := by rw [hW11]; simp [World.setCell, hs10]
       have R11 := hide (((uh R9).below b10).turn f11 hgn)
       have HFIN := hide ((uh R11).fin (x := ⟨11, false, none, 0, 0, aw, nw, cw, none, 0, 0, some ⟨g2, 0, none⟩, 1, 1, m, false, none, 0, 0⟩) (A := fun k => g1 < k ∧ k < W11.heap.size) (c := .mk 11 false [] ws [] [((S7).doGroup lst).1] m false []) (CmAt.of (nilrow _ _ _) ((uh HRW).kept (fun k hk => ((f11.block k (by have := hk.2; omega) (by have := hk.1; omega)).trans (b10.block k (by have := hk.2; omega))).trans ((uh HG).fr.block k hk.2 (by have := hk.1; omega))) (fun k hk => ⟨hk.1, by have := hk.2; omega⟩)) (nilrow _ _ _) (by
        have h1 := one_row (uh HG).cm h9
        rw [← hW10, ← hg2] at h1
        exact h1.kept (fun k hk => f11.block k hk.2 (by have := hk.1; omega)) (fun k hk => ⟨by have := hk.1; omega, by have := hk.2; omega⟩)) (nilrow _ _ _)) (fun k hk => ⟨by have := hk.1; omega, hk.2, by have := hk.1; omega⟩))
       have y5 : (w9.alloc (.cells #[.int .i64 x.k, .bool x.no, .slice x.al x.nl x.cl, .slice x.aw x.nw x.cw, .slice x.ar x.nr x.cr, .slice x.ac x.nc x.cc, .string (BA x.nm), .bool x.ev, .slice x.ai x.ni x.ci] 33)).cell? ⟨g1, 5, none⟩ = some (.slice none 0 0) := by rw [← hW10]; exact k10.cell 5 rfl
       have yg : (w9.alloc (.cells #[.int .i64 x.k, .bool x.no, .slice x.al x.nl x.cl, .slice x.aw x.nw x.cw, .slice x.ar x.nr x.cr, .slice x.ac x.nc x.cc, .string (BA x.nm), .bool x.ev, .slice x.ai x.ni x.ci] 33)).frozen? ⟨g1, 5, none⟩ = false := by rw [← hW10]; exact k10.frozen 5
       have HK11 := hide k11
       have HW10 := hide hW10
       have HW11 := hide hW11
       have HG2E := hide hg2
       clear hW10 hW11 hg2 b10 hs10 f11 k9 k10 k11 hgn hgw hgb hgT h9 hs11 R9 HDG RT KT HG HRW HGT
       go_upto_region 11 with fail
       rw [← uh HG2E, ← uh HW10, ← uh HW11]
       clear y5 yg HW10 HW11 HG2E
       obtain ⟨c0, c1, c2, c3, c4, c5, c6, c7, c8⟩ := cel9 (uh HK11)
       obtain ⟨z0, z1, z2, z3, z4, z5, z6, z7, z8⟩ := cel9 (uh R11).res
       have zf : ∀ i, W11.frozen? ⟨nb, i, none⟩ = false := fun i => (uh R11).res.frozen i
       clear R11 HK11
       go_wp2
       refine bodyPost_ret (results_cell_row (P := Tryz.prog) rfl _ _ nb 33 _ (0, 0) _ rfl (uh HFIN).1 Tryz.underlying33 rfl (by kernel_rfl)) rfl ⟨⟨11, false, none, 0, 0, aw, nw, cw, none, 0, 0, some ⟨g2, 0, none⟩, 1, 1, m, false, none, 0, 0⟩, rfl, hide (by rw [uh HRT]; exact (uh HFIN).2)⟩
     | false =>
       have hes : s2.endS = s2 := endS_no s2 hen.symm
       rw [hes] at R14
       obtain ⟨S7, hS7⟩ : ∃ S7, S7 = s2.misfit := ⟨_, rfl⟩
       have HRT : Hid (R = (.mk 11 false [] ws [] [(S7.doGroup lst).1] m false [], (S7.doGroup lst).2)) := hide (by rw [uh HR, hS7]; rfl)
       have HL7 : Hid (S7.toks.length < N) := hide (by rw [hS7]; exact Nat.lt_of_le_of_lt (misfit_le _) (uh HL2))
       have HMF := hide (pmisfit_any w14 b mp s2 (uh R14).pz)
       rw [← hS7] at HMF
       clear hS7 hen HR hes
       go_wp2_with fail
       refine (uh HMF).mono ?_
       rintro e w15 ⟨rfl, p15, f15⟩
       have RT := hide ((uh R14).step p15 f15)
       have KT := hide ((uh HK14).grownS f15 (fun e => by have := (uh HG1).1; omega))
       have HRW : Hid (RowAt Kw w15 (fun k => g1 < k ∧ k < w15.heap.size) (.slice aw nw cw) ws) := hide ((uh HRW14).kept (fun k hk => f15.block k hk.2 (by have := hk.1; have := (uh HG1).1; omega)) (fun k hk => ⟨hk.1, lle hk.2 f15.size⟩))
       clear p15 f15 R14 HK14 HRW14 HMF
       go_upto_region 10 with fail
       have HDG := hide (pdoGroup_any w15 b mp S7 (uh RT).pz (uh RT).env (uh RT).old (uh HM w15 (uh RT).fr) lst N (uh HLL) (uh HL7))
       have HGT : Hid (g1 < w15.heap.size ∧ w.heap.size ≤ w15.heap.size) := hide ⟨(uh KT).lt, (uh RT).fr.size⟩
       unfold Reads at HDG
       go_wp2_with fail
       refine (uh HDG).mono ?_
       rintro e w9 ⟨x, rfl, HG⟩
       have R9 := hide ((uh RT).step (uh HG).pz (uh HG).fr)
       have k9 := (uh KT).grownS (uh HG).fr (fun e => by have := (uh HG1).1; omega)
       obtain ⟨g2, hg2⟩ : ∃ g2, g2 = w9.heap.size := ⟨_, rfl⟩
       obtain ⟨W10, hW10⟩ : ∃ W10, W10 = w9.alloc (.cells #[.int .i64 x.k, .bool x.no, .slice x.al x.nl x.cl, .slice x.aw x.nw x.cw, .slice x.ar x.nr x.cr, .slice x.ac x.nc x.cc, .string (BA x.nm), .bool x.ev, .slice x.ai x.ni x.ci] 33) := ⟨_, rfl⟩
       obtain ⟨W11, hW11⟩ : ∃ W11, W11 = W10.setCell ⟨g1, 5, none⟩ (.slice (some ⟨g2, 0, none⟩) 1 1) := ⟨_, rfl⟩
       have b10 : Below w9.heap.size w9 W10 := by rw [hW10]; exact (Below.refl _ w9).alloc (ler _) _
       have hs10 : W10.heap.size = g2 + 1 := by rw [hW10, hg2]; simp
       have f11 : GrownS W10 W11 (fun k => k = g1) := by rw [hW11]; exact fr_set W10 g1 5 _
       have k10 : Blk W10 g1 33 #[.int .i64 11, .bool false, .slice none 0 0, .slice aw nw cw, .slice none 0 0, .slice none 0 0, .string (BA m), .bool false, .slice none 0 0] := k9.below b10 k9.lt
       have k11 : Blk W11 g1 33 #[.int .i64 11, .bool false, .slice none 0 0, .slice aw nw cw, .slice none 0 0, .slice (some ⟨g2, 0, none⟩) 1 1, .string (BA m), .bool false, .slice none 0 0] := by
        have := k10.set 5 (.slice (some ⟨g2, 0, none⟩) 1 1)
        simp only [List.setIfInBounds_toArray, List.set_cons_zero, List.set_cons_succ] at this
        rw [hW11]; exact this
       have hgn := (uh HG1).2.1
       have hgw := (uh HG1).2.2
       have hgb := (uh HG1).1
       have hgT := (uh HGT).1
       have h9 := (uh HG).fr.size
       have hs11 : W11.heap.size = g2 + 1 := by rw [hW11]; simp [World.setCell, hs10]
       have R11 := hide (((uh R9).below b10).turn f11 hgn)
       have HFIN := hide ((uh R11).fin (x := ⟨11, false, none, 0, 0, aw, nw, cw, none, 0, 0, some ⟨g2, 0, none⟩, 1, 1, m, false, none, 0, 0⟩) (A := fun k => g1 < k ∧ k < W11.heap.size) (c := .mk 11 false [] ws [] [((S7).doGroup lst).1] m false []) (CmAt.of (nilrow _ _ _) ((uh HRW).kept (fun k hk => ((f11.block k (by have := hk.2; omega) (by have := hk.1; omega)).trans (b10.block k (by have := hk.2; omega))).trans ((uh HG).fr.block k hk.2 (by have := hk.1; omega))) (fun k hk => ⟨hk.1, by have := hk.2; omega⟩)) (nilrow _ _ _) (by
        have h1 := one_row (uh HG).cm h9
        rw [← hW10, ← hg2] at h1
        exact h1.kept (fun k hk => f11.block k hk.2 (by have := hk.1; omega)) (fun k hk => ⟨by have := hk.1; omega, by have := hk.2; omega⟩)) (nilrow _ _ _)) (fun k hk => ⟨by have := hk.1; omega, hk.2, by have := hk.1; omega⟩))
       have y5 : (w9.alloc (.cells #[.int .i64 x.k, .bool x.no, .slice x.al x.nl x.cl, .slice x.aw x.nw x.cw, .slice x.ar x.nr x.cr, .slice x.ac x.nc x.cc, .string (BA x.nm), .bool x.ev, .slice x.ai x.ni x.ci] 33)).cell? ⟨g1, 5, none⟩ = some (.slice none 0 0) := by rw [← hW10]; exact k10.cell 5 rfl
       have yg : (w9.alloc (.cells #[.int .i64 x.k, .bool x.no, .slice x.al x.nl x.cl, .slice x.aw x.nw x.cw, .slice x.ar x.nr x.cr, .slice x.ac x.nc x.cc, .string (BA x.nm), .bool x.ev, .slice x.ai x.ni x.ci] 33)).frozen? ⟨g1, 5, none⟩ = false := by rw [← hW10]; exact k10.frozen 5
       have HK11 := hide k11
       have HW10 := hide hW10
       have HW11 := hide hW11
       have HG2E := hide hg2
       clear hW10 hW11 hg2 b10 hs10 f11 k9 k10 k11 hgn hgw hgb hgT h9 hs11 R9 HDG RT KT HG HRW HGT
       go_upto_region 11 with fail
       rw [← uh HG2E, ← uh HW10, ← uh HW11]
       clear y5 yg HW10 HW11 HG2E
       obtain ⟨c0, c1, c2, c3, c4, c5, c6, c7, c8⟩ := cel9 (uh HK11)
       obtain ⟨z0, z1, z2, z3, z4, z5, z6, z7, z8⟩ := cel9 (uh R11).res
       have zf : ∀ i, W11.frozen? ⟨nb, i, none⟩ = false := fun i => (uh R11).res.frozen i
       clear R11 HK11
       go_wp2
       refine bodyPost_ret (results_cell_row (P := Tryz.prog) rfl _ _ nb 33 _ (0, 0) _ rfl (uh HFIN).1 Tryz.underlying33 rfl (by kernel_rfl)) rfl ⟨⟨11, false, none, 0, 0, aw, nw, cw, none, 0, 0, some ⟨g2, 0, none⟩, 1, 1, m, false, none, 0, 0⟩, rfl, hide (by rw [uh HRT]; exact (uh HFIN).2)⟩
end Go.Proofs.YtojjfdobilkknaaGreatDoor

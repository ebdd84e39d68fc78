/- The parser: lists in brackets and braces.; The parser: do groups and loops.; The parser: loops. -/
import Derived.Test.YtojjfdobilkknaaGreatDoorM23
import Derived.Test.YtojjfdobilkknaaGreatDoorM14
import Derived.Deep.RegionHeld3
import Derived.Maps.RangeWalk
set_option maxRecDepth 20000
set_option maxHeartbeats 4000000
namespace Go.Proofs.YtojjfdobilkknaaGreatDoor
open Go.RowKit
theorem one_row {W w3 : World} {c : Cm} {x : CV} (h : CmAt w3 (New W w3) c x.l) (hs : W.heap.size ≤ w3.heap.size) : RowAt Kc (w3.alloc (.cells #[.int .i64 x.k, .bool x.no, .slice x.al x.nl x.cl, .slice x.aw x.nw x.cw, .slice x.ar x.nr x.cr, .slice x.ac x.nc x.cc, .string (BA x.nm), .bool x.ev, .slice x.ai x.ni x.ci] 33)) (New W (w3.alloc (.cells #[.int .i64 x.k, .bool x.no, .slice x.al x.nl x.cl, .slice x.aw x.nw x.cw, .slice x.ar x.nr x.cr, .slice x.ac x.nc x.cc, .string (BA x.nm), .bool x.ev, .slice x.ai x.ni x.ci] 33))) (.slice (some ⟨w3.heap.size, 0, none⟩) 1 1) [c] := by
 have hsz : (w3.alloc (.cells #[.int .i64 x.k, .bool x.no, .slice x.al x.nl x.cl, .slice x.aw x.nw x.cw, .slice x.ar x.nr x.cr, .slice x.ac x.nc x.cc, .string (BA x.nm), .bool x.ev, .slice x.ai x.ni x.ci] 33)).heap.size = w3.heap.size + 1 := by simp
 refine ⟨_, 1, rfl, .inr ⟨w3.heap.size, _, rfl, ⟨hs, by rw [hsz]; omega⟩, Blk.new _ _ _, fun i y hy => ?_⟩⟩
 cases i with
 | succ i => simp at hy
 | zero =>
   simp at hy
   subst hy
   refine ⟨x.l, h.kept (fun k hk => heap_alloc_old w3 _ hk.2) (fun k hk => ⟨hk.1, by rw [hsz]; have := hk.2; omega⟩), fun j u hu => ?_⟩
   show (#[.int .i64 x.k, .bool x.no, .slice x.al x.nl x.cl, .slice x.aw x.nw x.cw, .slice x.ar x.nr x.cr, .slice x.ac x.nc x.cc, .string (BA x.nm), .bool x.ev, .slice x.ai x.ni x.ci] : Array Value)[0 * 9 + j]? = some u
   rw [Nat.zero_mul, Nat.zero_add]
   rw [List.getElem?_toArray]
   exact hu
def LstAt (b : Nat) (mp : Value) (lst : Pz → Cm × Pz) (N : Nat) : Prop := ∀ W s', PzAt W b mp s' → PEnv W → MpAt W b mp → s'.toks.length < N → Reads 56 b mp lst W s'
theorem nilrow {α : Type} (K : Kd α) (w : World) (A : Nat → Prop) : RowAt K w A (.slice none 0 0) [] := ⟨none, 0, rfl, .inl rfl⟩
theorem take_lt {s : Pz} (h : s.toks ≠ []) : s.take.toks.length < s.toks.length := by
 unfold Pz.take
 cases hs : s.toks with
 | nil => exact absurd hs h
 | cons t r => simp
theorem penclosed_any (w : World) (b : Nat) (mp : Value) (s : Pz) (H : PzAt w b mp s) (he : PEnv w) (hb : 7 ≤ b) (hm : MpAt w b mp) (lst : Pz → Cm × Pz) (N : Nat) (HL : LstAt b mp lst N) (kind : Int) (cl : ByteArray) (hN : s.take.toks.length < N) : Calls Tryz.prog 54 #[.pointer (some ⟨b, 0, none⟩), .int .i64 kind, .string cl] w fun e w' => ∃ x : CV, e = .returned (.agg #[.int .i64 x.k, .bool x.no, .slice x.al x.nl x.cl, .slice x.aw x.nw x.cw, .slice x.ar x.nr x.cr, .slice x.ac x.nc x.cc, .string (BA x.nm), .bool x.ev, .slice x.ai x.ni x.ci]) ∧ Hid (Got w w' b mp (s.enclosed lst kind cl) x) := by
 obtain ⟨W1, hW1⟩ : ∃ W1, W1 = w.alloc (.cells #[.int .i64 0, .bool false, .slice none 0 0, .slice none 0 0, .slice none 0 0, .slice none 0 0, .string ⟨#[]⟩, .bool false, .slice none 0 0] 33) := ⟨_, rfl⟩
 obtain ⟨nb, hnb⟩ : ∃ nb, nb = w.heap.size := ⟨_, rfl⟩
 have R1 : Hid (RS w W1 b nb mp 33 #[.int .i64 0, .bool false, .slice none 0 0, .slice none 0 0, .slice none 0 0, .slice none 0 0, .string ⟨#[]⟩, .bool false, .slice none 0 0] s) := hide (by rw [hW1, hnb]; exact rs_begin H he hb)
 have HM : Hid (∀ W, Fr w W b → MpAt W b mp) := hide (fun W h => hm.fr h)
 have HW1 := hide hW1
 have HNB := hide hnb
 have HTK := hide (ptake_any W1 b mp s (uh R1).pz)
 have HLL := hide (fun W (h1 : PzAt W b mp s.take) (h2 : PEnv W) (h3 : MpAt W b mp) => HL W s.take h1 h2 h3 hN)
 have HWB : Hid (w.heap.size ≤ nb ∧ nb < W1.heap.size) := hide ⟨(uh R1).new, (uh R1).res.lt⟩
 obtain ⟨R, hR⟩ : ∃ R, R = s.enclosed lst kind cl := ⟨_, rfl⟩
 have HR : Hid (R = (.mk kind false [] [] [] [(lst s.take).1] [] false [], (lst s.take).2.want cl)) := hide (by rw [hR]; rfl)
 rw [← hR]
 clear hR hW1 hnb H he hm HL hN
 go_enter Tryz.func54, Tryz.ntmps54
 go_upto_region 1 with fail
 rw [← uh HW1, ← uh HNB]
 clear HW1 HNB
 go_wp2_with fail
 refine (uh HTK).mono ?_
 rintro e w2 ⟨rfl, p2, f2⟩
 have R2 := hide ((uh R1).step p2 f2)
 have HLI := hide (uh HLL w2 p2 (uh R2).env (uh HM w2 (uh R2).fr))
 have HS2 : Hid (w.heap.size ≤ w2.heap.size ∧ nb < w2.heap.size ∧ b < w2.heap.size) := hide ⟨lee (lee (uh HWB).1 (lel (uh HWB).2)) f2.size, lle (uh HWB).2 f2.size, p2.lt⟩
 clear p2 f2 R1 HTK HLL
 unfold Reads at HLI
 go_wp2_with fail
 refine (uh HLI).mono ?_
 rintro e w3 ⟨x, rfl, HG⟩
 have R3 := hide ((uh R2).step (uh HG).pz (uh HG).fr)
 obtain ⟨g, hg⟩ : ∃ g, g = w3.heap.size := ⟨_, rfl⟩
 obtain ⟨W4, hW4⟩ : ∃ W4, W4 = w3.alloc (.cells #[.int .i64 x.k, .bool x.no, .slice x.al x.nl x.cl, .slice x.aw x.nw x.cw, .slice x.ar x.nr x.cr, .slice x.ac x.nc x.cc, .string (BA x.nm), .bool x.ev, .slice x.ai x.ni x.ci] 33) := ⟨_, rfl⟩
 obtain ⟨W5, hW5⟩ : ∃ W5, W5 = W4.alloc (.cells #[.int .i64 kind, .bool false, .slice none 0 0, .slice none 0 0, .slice none 0 0, .slice (some ⟨g, 0, none⟩) 1 1, .string ⟨#[]⟩, .bool false, .slice none 0 0] 33) := ⟨_, rfl⟩
 have hs4 : W4.heap.size = g + 1 := by rw [hW4, hg]; simp
 have b4 : Below w3.heap.size w3 W4 := by rw [hW4]; exact (Below.refl _ w3).alloc (ler _) _
 have b5 : Below W4.heap.size W4 W5 := by rw [hW5]; exact (Below.refl _ W4).alloc (ler _) _
 have R5 := hide (((uh R3).below b4).below b5)
 have k5 : Blk W5 (g + 1) 33 #[.int .i64 kind, .bool false, .slice none 0 0, .slice none 0 0, .slice none 0 0, .slice (some ⟨g, 0, none⟩) 1 1, .string ⟨#[]⟩, .bool false, .slice none 0 0] := by rw [hW5, ← hs4]; exact Blk.new _ _ _
 have HCM : Hid (CmAt W5 (New w2 W5) (.mk kind false [] [] [] [(lst s.take).1] [] false []) (CV.l ⟨kind, false, none, 0, 0, none, 0, 0, none, 0, 0, some ⟨g, 0, none⟩, 1, 1, [], false, none, 0, 0⟩)) := hide (by
  have h1 := one_row (uh HG).cm (uh HG).fr.size
  rw [← hW4, ← hg] at h1
  have h2 := h1.kept (w' := W5) (B := New w2 W5) (fun k hk => b5.block k hk.2) (fun k hk => ⟨hk.1, lle hk.2 b5.size⟩)
  exact CmAt.of (nilrow _ _ _) (nilrow _ _ _) (nilrow _ _ _) h2 (nilrow _ _ _))
 have HK5 := hide k5
 have HWT := hide (pwant_any W5 b mp (lst s.take).2 cl (uh R5).pz)
 have HG5 : Hid (b < g + 1 ∧ nb < g + 1) := hide (by
  have h1 := (uh HG).fr.size
  have h2 := (uh HS2).2
  omega)
 have HW4 := hide hW4
 have HW5 := hide hW5
 have HGG := hide hg
 have HS4 := hide hs4
 clear hW4 hW5 hg hs4 b4 b5 k5 R2 R3 HG HLI
 go_upto_region 3 with fail
 rw [← uh HGG, ← uh HW4]
 try rw [← uh HS4]
 try rw [uh HS4]
 rw [← uh HW5]
 clear HW4 HW5 HGG HS4
 go_wp2_with fail
 refine (uh HWT).mono ?_
 rintro e w6 ⟨rfl, p6, f6⟩
 have R6 := hide ((uh R5).step p6 f6)
 have HK6 := hide ((uh HK5).grownS f6 (fun e => by have := (uh HG5).1; omega))
 have HFIN := hide ((uh R6).fin ((uh HCM).kept (w' := w6) (B := New w2 w6) (fun k hk => f6.block k hk.2 (fun e => by have := hk.1; have := (uh HS2).2.2; omega)) (fun k hk => ⟨hk.1, lle hk.2 f6.size⟩)) (new_ne (uh HS2).1 (uh HS2).2.1))
 obtain ⟨c0, c1, c2, c3, c4, c5, c6, c7, c8⟩ := cel9 (uh HK6)
 obtain ⟨z0, z1, z2, z3, z4, z5, z6, z7, z8⟩ := cel9 (uh R6).res
 have zf : ∀ i, w6.frozen? ⟨nb, i, none⟩ = false := fun i => (uh R6).res.frozen i
 clear p6 f6 R5 HWT HK5 HK6 R6 HCM
 go_wp2
 refine bodyPost_ret (results_cell_row (P := Tryz.prog) rfl _ _ nb 33 _ (0, 0) _ rfl (uh HFIN).1 Tryz.underlying33 rfl (by kernel_rfl)) rfl ⟨⟨kind, false, none, 0, 0, none, 0, 0, none, 0, 0, some ⟨g, 0, none⟩, 1, 1, [], false, none, 0, 0⟩, rfl, hide (by rw [uh HR]; exact (uh HFIN).2)⟩
theorem psubshell_any (w : World) (b : Nat) (mp : Value) (s : Pz) (H : PzAt w b mp s) (he : PEnv w) (hb : 7 ≤ b) (hm : MpAt w b mp) (lst : Pz → Cm × Pz) (N : Nat) (HL : LstAt b mp lst N) (hN : s.take.toks.length < N) : Reads 32 b mp (Pz.enclosed lst 7 kRp) w s := by
 obtain ⟨W1, hW1⟩ : ∃ W1, W1 = w.alloc (.cells #[.int .i64 0, .bool false, .slice none 0 0, .slice none 0 0, .slice none 0 0, .slice none 0 0, .string ⟨#[]⟩, .bool false, .slice none 0 0] 33) := ⟨_, rfl⟩
 obtain ⟨nb, hnb⟩ : ∃ nb, nb = w.heap.size := ⟨_, rfl⟩
 have R1 : Hid (RS w W1 b nb mp 33 #[.int .i64 0, .bool false, .slice none 0 0, .slice none 0 0, .slice none 0 0, .slice none 0 0, .string ⟨#[]⟩, .bool false, .slice none 0 0] s) := hide (by rw [hW1, hnb]; exact rs_begin H he hb)
 have HM : Hid (∀ W, Fr w W b → MpAt W b mp) := hide (fun W h => hm.fr h)
 have HW1 := hide hW1
 have HNB := hide hnb
 have HC := hide (penclosed_any W1 b mp s (uh R1).pz (uh R1).env hb (uh HM W1 (uh R1).fr) lst N HL 7 kRp hN)
 have HWB : Hid (w.heap.size ≤ W1.heap.size ∧ nb < W1.heap.size) := hide ⟨lee (uh R1).new (lel (uh R1).res.lt), (uh R1).res.lt⟩
 unfold Reads
 obtain ⟨R, hR⟩ : ∃ R, R = (Pz.enclosed lst 7 kRp) s := ⟨_, rfl⟩
 change Hid (Calls _ _ _ _ fun e w' => ∃ x : CV, e = .returned (.agg #[.int .i64 x.k, .bool x.no, .slice x.al x.nl x.cl, .slice x.aw x.nw x.cw, .slice x.ar x.nr x.cr, .slice x.ac x.nc x.cc, .string (BA x.nm), .bool x.ev, .slice x.ai x.ni x.ci]) ∧ Hid (Got W1 w' b mp ((Pz.enclosed lst 7 kRp) s) x)) at HC
 rw [← hR] at HC ⊢
 clear hR hW1 hnb H he hm HL hN
 go_enter Tryz.func32, Tryz.ntmps32
 go_upto_region 1 with fail
 rw [← uh HW1, ← uh HNB]
 clear HW1 HNB
 go_wp2_with fail
 refine (uh HC).mono ?_
 rintro e w2 ⟨x, rfl, HG⟩
 have R2 := hide ((uh R1).step (uh HG).pz (uh HG).fr)
 have HFIN := hide ((uh R2).fin (uh HG).cm (new_ne (uh HWB).1 (uh HWB).2))
 obtain ⟨z0, z1, z2, z3, z4, z5, z6, z7, z8⟩ := cel9 (uh R2).res
 have zf : ∀ i, w2.frozen? ⟨nb, i, none⟩ = false := fun i => (uh R2).res.frozen i
 clear R1 HC R2 HG
 go_wp2
 refine bodyPost_ret (results_cell_row (P := Tryz.prog) rfl _ _ nb 33 _ (0, 0) _ rfl (uh HFIN).1 Tryz.underlying33 rfl (by kernel_rfl)) rfl ⟨x, rfl, hide (uh HFIN).2⟩
theorem pgroup_any (w : World) (b : Nat) (mp : Value) (s : Pz) (H : PzAt w b mp s) (he : PEnv w) (hb : 7 ≤ b) (hm : MpAt w b mp) (lst : Pz → Cm × Pz) (N : Nat) (HL : LstAt b mp lst N) (hN : s.take.toks.length < N) : Reads 33 b mp (Pz.enclosed lst 6 kRb) w s := by
 obtain ⟨W1, hW1⟩ : ∃ W1, W1 = w.alloc (.cells #[.int .i64 0, .bool false, .slice none 0 0, .slice none 0 0, .slice none 0 0, .slice none 0 0, .string ⟨#[]⟩, .bool false, .slice none 0 0] 33) := ⟨_, rfl⟩
 obtain ⟨nb, hnb⟩ : ∃ nb, nb = w.heap.size := ⟨_, rfl⟩
 have R1 : Hid (RS w W1 b nb mp 33 #[.int .i64 0, .bool false, .slice none 0 0, .slice none 0 0, .slice none 0 0, .slice none 0 0, .string ⟨#[]⟩, .bool false, .slice none 0 0] s) := hide (by rw [hW1, hnb]; exact rs_begin H he hb)
 have HM : Hid (∀ W, Fr w W b → MpAt W b mp) := hide (fun W h => hm.fr h)
 have HW1 := hide hW1
 have HNB := hide hnb
 have HC := hide (penclosed_any W1 b mp s (uh R1).pz (uh R1).env hb (uh HM W1 (uh R1).fr) lst N HL 6 kRb hN)
 have HWB : Hid (w.heap.size ≤ W1.heap.size ∧ nb < W1.heap.size) := hide ⟨lee (uh R1).new (lel (uh R1).res.lt), (uh R1).res.lt⟩
 unfold Reads
 obtain ⟨R, hR⟩ : ∃ R, R = (Pz.enclosed lst 6 kRb) s := ⟨_, rfl⟩
 change Hid (Calls _ _ _ _ fun e w' => ∃ x : CV, e = .returned (.agg #[.int .i64 x.k, .bool x.no, .slice x.al x.nl x.cl, .slice x.aw x.nw x.cw, .slice x.ar x.nr x.cr, .slice x.ac x.nc x.cc, .string (BA x.nm), .bool x.ev, .slice x.ai x.ni x.ci]) ∧ Hid (Got W1 w' b mp ((Pz.enclosed lst 6 kRb) s) x)) at HC
 rw [← hR] at HC ⊢
 clear hR hW1 hnb H he hm HL hN
 go_enter Tryz.func33, Tryz.ntmps33
 go_upto_region 1 with fail
 rw [← uh HW1, ← uh HNB]
 clear HW1 HNB
 go_wp2_with fail
 refine (uh HC).mono ?_
 rintro e w2 ⟨x, rfl, HG⟩
 have R2 := hide ((uh R1).step (uh HG).pz (uh HG).fr)
 have HFIN := hide ((uh R2).fin (uh HG).cm (new_ne (uh HWB).1 (uh HWB).2))
 obtain ⟨z0, z1, z2, z3, z4, z5, z6, z7, z8⟩ := cel9 (uh R2).res
 have zf : ∀ i, w2.frozen? ⟨nb, i, none⟩ = false := fun i => (uh R2).res.frozen i
 clear R1 HC R2 HG
 go_wp2
 refine bodyPost_ret (results_cell_row (P := Tryz.prog) rfl _ _ nb 33 _ (0, 0) _ rfl (uh HFIN).1 Tryz.underlying33 rfl (by kernel_rfl)) rfl ⟨x, rfl, hide (uh HFIN).2⟩
theorem fail_le (s : Pz) (e p : Int) : (s.fail e p).toks.length ≤ s.toks.length := by
 unfold Pz.fail
 split
 ·exact Nat.zero_le _
 ·exact ler _
theorem misfit_le (s : Pz) : s.misfit.toks.length ≤ s.toks.length := by
 unfold Pz.misfit
 split
 ·exact fail_le _ _ _
 ·split
  ·exact fail_le _ _ _
  ·exact fail_le _ _ _
theorem take_le (s : Pz) : s.take.toks.length ≤ s.toks.length := by
 unfold Pz.take
 simp
theorem want_le (s : Pz) (t : ByteArray) : (s.want t).toks.length ≤ s.toks.length := by
 unfold Pz.want
 split
 ·exact take_le s
 ·exact misfit_le s
theorem skips_le (s : Pz) (t : ByteArray) : (s.skips t).toks.length ≤ s.toks.length := by
 unfold Pz.skips
 split
 ·exact take_le s
 ·exact ler _
theorem pdoGroup_any (w : World) (b : Nat) (mp : Value) (s : Pz) (H : PzAt w b mp s) (he : PEnv w) (hb : 7 ≤ b) (hm : MpAt w b mp) (lst : Pz → Cm × Pz) (N : Nat) (HL : LstAt b mp lst N) (hN : s.toks.length < N) : Reads 62 b mp (Pz.doGroup lst) w s := by
 obtain ⟨W1, hW1⟩ : ∃ W1, W1 = w.alloc (.cells #[.int .i64 0, .bool false, .slice none 0 0, .slice none 0 0, .slice none 0 0, .slice none 0 0, .string ⟨#[]⟩, .bool false, .slice none 0 0] 33) := ⟨_, rfl⟩
 obtain ⟨nb, hnb⟩ : ∃ nb, nb = w.heap.size := ⟨_, rfl⟩
 have R1 : Hid (RS w W1 b nb mp 33 #[.int .i64 0, .bool false, .slice none 0 0, .slice none 0 0, .slice none 0 0, .slice none 0 0, .string ⟨#[]⟩, .bool false, .slice none 0 0] s) := hide (by rw [hW1, hnb]; exact rs_begin H he hb)
 have HM : Hid (∀ W, Fr w W b → MpAt W b mp) := hide (fun W h => hm.fr h)
 have HW1 := hide hW1
 have HNB := hide hnb
 have HTK := hide (pwant_any W1 b mp s kDo (uh R1).pz)
 have HLL := hide (fun W (h1 : PzAt W b mp (s.want kDo)) (h2 : PEnv W) (h3 : MpAt W b mp) => HL W (s.want kDo) h1 h2 h3 (Nat.lt_of_le_of_lt (want_le s kDo) hN))
 have HWB : Hid (w.heap.size ≤ nb ∧ nb < W1.heap.size) := hide ⟨(uh R1).new, (uh R1).res.lt⟩
 unfold Reads
 obtain ⟨R, hR⟩ : ∃ R, R = s.doGroup lst := ⟨_, rfl⟩
 have HR : Hid (R = ((lst (s.want kDo)).1, (lst (s.want kDo)).2.want kDone)) := hide (by rw [hR]; rfl)
 rw [← hR]
 clear hR hW1 hnb H he hm HL hN
 go_enter Tryz.func62, Tryz.ntmps62
 go_upto_region 1 with fail
 rw [← uh HW1, ← uh HNB]
 clear HW1 HNB
 go_wp2_with fail
 refine (uh HTK).mono ?_
 rintro e w2 ⟨rfl, p2, f2⟩
 have R2 := hide ((uh R1).step p2 f2)
 have HLI := hide (uh HLL w2 p2 (uh R2).env (uh HM w2 (uh R2).fr))
 have HS2 : Hid (w.heap.size ≤ w2.heap.size ∧ nb < w2.heap.size ∧ b < w2.heap.size) := hide ⟨lee (lee (uh HWB).1 (lel (uh HWB).2)) f2.size, lle (uh HWB).2 f2.size, p2.lt⟩
 clear p2 f2 R1 HTK HLL
 unfold Reads at HLI
 go_wp2_with fail
 refine (uh HLI).mono ?_
 rintro e w3 ⟨x, rfl, HG⟩
 have R3 := hide ((uh R2).step (uh HG).pz (uh HG).fr)
 obtain ⟨g, hg⟩ : ∃ g, g = w3.heap.size := ⟨_, rfl⟩
 obtain ⟨W4, hW4⟩ : ∃ W4, W4 = w3.alloc (.cells #[.int .i64 x.k, .bool x.no, .slice x.al x.nl x.cl, .slice x.aw x.nw x.cw, .slice x.ar x.nr x.cr, .slice x.ac x.nc x.cc, .string (BA x.nm), .bool x.ev, .slice x.ai x.ni x.ci] 33) := ⟨_, rfl⟩
 have b4 : Below w3.heap.size w3 W4 := by rw [hW4]; exact (Below.refl _ w3).alloc (ler _) _
 have R4 := hide ((uh R3).below b4)
 have k4 : Blk W4 g 33 #[.int .i64 x.k, .bool x.no, .slice x.al x.nl x.cl, .slice x.aw x.nw x.cw, .slice x.ar x.nr x.cr, .slice x.ac x.nc x.cc, .string (BA x.nm), .bool x.ev, .slice x.ai x.ni x.ci] := by rw [hW4, hg]; exact Blk.new _ _ _
 have HCM : Hid (CmAt W4 (New w2 W4) (lst (s.want kDo)).1 x.l) := hide ((uh HG).cm.kept (fun k hk => b4.block k hk.2) (fun k hk => ⟨hk.1, lle hk.2 b4.size⟩))
 have HK4 := hide k4
 have HWT := hide (pwant_any W4 b mp (lst (s.want kDo)).2 kDone (uh R4).pz)
 have HG5 : Hid (b < g) := hide (by
  have h1 := (uh HG).fr.size
  have h2 := (uh HS2).2
  omega)
 have HW4 := hide hW4
 have HGG := hide hg
 clear hW4 hg b4 k4 R2 R3 HG HLI
 go_upto_region 3 with fail
 rw [← uh HGG, ← uh HW4]
 clear HW4 HGG
 go_wp2_with fail
 refine (uh HWT).mono ?_
 rintro e w6 ⟨rfl, p6, f6⟩
 have R6 := hide ((uh R4).step p6 f6)
 have HK6 := hide ((uh HK4).grownS f6 (fun e => by have := uh HG5; omega))
 have HFIN := hide ((uh R6).fin ((uh HCM).kept (w' := w6) (B := New w2 w6) (fun k hk => f6.block k hk.2 (fun e => by have := hk.1; have := (uh HS2).2.2; omega)) (fun k hk => ⟨hk.1, lle hk.2 f6.size⟩)) (new_ne (uh HS2).1 (uh HS2).2.1))
 obtain ⟨c0, c1, c2, c3, c4, c5, c6, c7, c8⟩ := cel9 (uh HK6)
 obtain ⟨z0, z1, z2, z3, z4, z5, z6, z7, z8⟩ := cel9 (uh R6).res
 have zf : ∀ i, w6.frozen? ⟨nb, i, none⟩ = false := fun i => (uh R6).res.frozen i
 clear p6 f6 R4 HWT HK4 HK6 R6 HCM
 go_wp2
 refine bodyPost_ret (results_cell_row (P := Tryz.prog) rfl _ _ nb 33 _ (0, 0) _ rfl (uh HFIN).1 Tryz.underlying33 rfl (by kernel_rfl)) rfl ⟨x, rfl, hide (by rw [uh HR]; exact (uh HFIN).2)⟩
theorem two_row {w6 : World} {A : Nat → Prop} {c c2 : Cm} {x x2 : CV} (h : CmAt w6 A c x.l) (h2 : CmAt w6 A c2 x2.l) (hA : ∀ k, A k → k < w6.heap.size) : RowAt Kc (w6.alloc (.cells #[.int .i64 x.k, .bool x.no, .slice x.al x.nl x.cl, .slice x.aw x.nw x.cw, .slice x.ar x.nr x.cr, .slice x.ac x.nc x.cc, .string (BA x.nm), .bool x.ev, .slice x.ai x.ni x.ci, .int .i64 x2.k, .bool x2.no, .slice x2.al x2.nl x2.cl, .slice x2.aw x2.nw x2.cw, .slice x2.ar x2.nr x2.cr, .slice x2.ac x2.nc x2.cc, .string (BA x2.nm), .bool x2.ev, .slice x2.ai x2.ni x2.ci] 33)) (fun k => A k ∨ k = w6.heap.size) (.slice (some ⟨w6.heap.size, 0, none⟩) 2 2) [c, c2] := by
 refine ⟨_, 2, rfl, .inr ⟨w6.heap.size, _, rfl, .inr rfl, Blk.new _ _ _, fun i y hy => ?_⟩⟩
 match i with
 | 0 =>
   simp at hy
   subst hy
   refine ⟨x.l, h.kept (fun k hk => heap_alloc_old w6 _ (hA k hk)) (fun k hk => .inl hk), fun j u hu => ?_⟩
   show ((x.l ++ x2.l).toArray)[0 * 9 + j]? = some u
   rw [Nat.zero_mul, Nat.zero_add, List.getElem?_toArray, List.getElem?_append_left (List.getElem?_eq_some_iff.1 hu).1]
   exact hu
 | 1 =>
   simp at hy
   subst hy
   refine ⟨x2.l, h2.kept (fun k hk => heap_alloc_old w6 _ (hA k hk)) (fun k hk => .inl hk), fun j u hu => ?_⟩
   show ((x.l ++ x2.l).toArray)[1 * 9 + j]? = some u
   have hl : x.l.length = 9 := rfl
   rw [List.getElem?_toArray, List.getElem?_append_right (by omega), hl, show 1 * 9 + j - 9 = j by omega]
   exact hu
 | i + 2 => simp at hy
structure Lp2 (w w2 w5 : World) (b nb : Nat) (mp : Value) (s : Pz) (c c2 : Cm) (x x2 : CV) : Prop where
 rs : RS w w5 b nb mp 33 #[.int .i64 0, .bool false, .slice none 0 0, .slice none 0 0, .slice none 0 0, .slice none 0 0, .string ⟨#[]⟩, .bool false, .slice none 0 0] s
 c1 : CmAt w5 (New w2 w5) c x.l
 c2 : CmAt w5 (New w2 w5) c2 x2.l
 s25 : w2.heap.size ≤ w5.heap.size
theorem loop_fin {w w2 w5 W6 : World} {b nb g6 : Nat} {mp : Value} {s : Pz} {c c2 : Cm} {x x2 : CV} {kind : Int} (h : Lp2 w w2 w5 b nb mp s c c2 x x2) (h25 : w2.heap.size ≤ w5.heap.size) (hs : w.heap.size ≤ w2.heap.size ∧ nb < w2.heap.size ∧ b < w2.heap.size) (hW6 : W6 = w5.alloc (.cells #[.int .i64 x.k, .bool x.no, .slice x.al x.nl x.cl, .slice x.aw x.nw x.cw, .slice x.ar x.nr x.cr, .slice x.ac x.nc x.cc, .string (BA x.nm), .bool x.ev, .slice x.ai x.ni x.ci, .int .i64 x2.k, .bool x2.no, .slice x2.al x2.nl x2.cl, .slice x2.aw x2.nw x2.cw, .slice x2.ar x2.nr x2.cr, .slice x2.ac x2.nc x2.cc, .string (BA x2.nm), .bool x2.ev, .slice x2.ai x2.ni x2.ci] 33)) (hg6 : g6 = w5.heap.size) : RS w W6 b nb mp 33 #[.int .i64 0, .bool false, .slice none 0 0, .slice none 0 0, .slice none 0 0, .slice none 0 0, .string ⟨#[]⟩, .bool false, .slice none 0 0] s ∧ Blk (L9 W6 nb (.int .i64 kind) (.bool false) (.slice none 0 0) (.slice none 0 0) (.slice none 0 0) (.slice (some ⟨g6, 0, none⟩) 2 2) (.string (BA [])) (.bool false) (.slice none 0 0)) nb 33 #[.int .i64 kind, .bool false, .slice none 0 0, .slice none 0 0, .slice none 0 0, .slice (some ⟨g6, 0, none⟩) 2 2, .string (BA []), .bool false, .slice none 0 0] ∧ Got w (L9 W6 nb (.int .i64 kind) (.bool false) (.slice none 0 0) (.slice none 0 0) (.slice none 0 0) (.slice (some ⟨g6, 0, none⟩) 2 2) (.string (BA [])) (.bool false) (.slice none 0 0)) b mp (.mk kind false [] [] [] [c, c2] [] false [], s) ⟨kind, false, none, 0, 0, none, 0, 0, none, 0, 0, some ⟨g6, 0, none⟩, 2, 2, [], false, none, 0, 0⟩ := by
 have hb6 : Below w5.heap.size w5 W6 := by rw [hW6]; exact (Below.refl _ w5).alloc (ler _) _
 have hsz : W6.heap.size = w5.heap.size + 1 := by rw [hW6]; simp
 have r6 := h.rs.below hb6
 have hr := two_row h.c1 h.c2 (fun k hk => hk.2)
 rw [← hW6, ← hg6] at hr
 exact ⟨r6, r6.fin (x := ⟨kind, false, none, 0, 0, none, 0, 0, none, 0, 0, some ⟨g6, 0, none⟩, 2, 2, [], false, none, 0, 0⟩) (CmAt.of (nilrow _ _ _) (nilrow _ _ _) (nilrow _ _ _) hr (nilrow _ _ _)) (fun k hk => by
  rcases hk with hk | hk
  ·exact ⟨lee hs.1 hk.1, by have := hk.2; omega, by have := hk.1; omega⟩
  ·exact ⟨by omega, by omega, by omega⟩)⟩
theorem ploop_any (w : World) (b : Nat) (mp : Value) (s : Pz) (H : PzAt w b mp s) (he : PEnv w) (hb : 7 ≤ b) (hm : MpAt w b mp) (lst : Pz → Cm × Pz) (N : Nat) (HL : LstAt b mp lst N) (hle : ∀ s', (lst s').2.toks.length ≤ s'.toks.length) (kind : Int) (hN : s.take.toks.length < N) : Calls Tryz.prog 57 #[.pointer (some ⟨b, 0, none⟩), .int .i64 kind] w fun e w' => ∃ x : CV, e = .returned (.agg #[.int .i64 x.k, .bool x.no, .slice x.al x.nl x.cl, .slice x.aw x.nw x.cw, .slice x.ar x.nr x.cr, .slice x.ac x.nc x.cc, .string (BA x.nm), .bool x.ev, .slice x.ai x.ni x.ci]) ∧ Hid (Got w w' b mp (s.loop lst kind) x) := by
 obtain ⟨W1, hW1⟩ : ∃ W1, W1 = w.alloc (.cells #[.int .i64 0, .bool false, .slice none 0 0, .slice none 0 0, .slice none 0 0, .slice none 0 0, .string ⟨#[]⟩, .bool false, .slice none 0 0] 33) := ⟨_, rfl⟩
 obtain ⟨nb, hnb⟩ : ∃ nb, nb = w.heap.size := ⟨_, rfl⟩
 have R1 : Hid (RS w W1 b nb mp 33 #[.int .i64 0, .bool false, .slice none 0 0, .slice none 0 0, .slice none 0 0, .slice none 0 0, .string ⟨#[]⟩, .bool false, .slice none 0 0] s) := hide (by rw [hW1, hnb]; exact rs_begin H he hb)
 have HM : Hid (∀ W, Fr w W b → MpAt W b mp) := hide (fun W h => hm.fr h)
 have HW1 := hide hW1
 have HNB := hide hnb
 have HTK := hide (ptake_any W1 b mp s (uh R1).pz)
 have HLL := hide (fun W (h1 : PzAt W b mp s.take) (h2 : PEnv W) (h3 : MpAt W b mp) => HL W s.take h1 h2 h3 hN)
 have HDG := hide (fun W (h1 : PzAt W b mp (lst s.take).2) (h2 : PEnv W) (h3 : MpAt W b mp) => pdoGroup_any W b mp (lst s.take).2 h1 h2 hb h3 lst N HL (Nat.lt_of_le_of_lt (hle s.take) hN))
 have HWB : Hid (w.heap.size ≤ nb ∧ nb < W1.heap.size) := hide ⟨(uh R1).new, (uh R1).res.lt⟩
 obtain ⟨R, hR⟩ : ∃ R, R = s.loop lst kind := ⟨_, rfl⟩
 have HR : Hid (R = (.mk kind false [] [] [] [(lst s.take).1, ((lst s.take).2.doGroup lst).1] [] false [], ((lst s.take).2.doGroup lst).2)) := hide (by rw [hR]; rfl)
 rw [← hR]
 clear hR hW1 hnb H he hm HL hN hle
 go_enter Tryz.func57, Tryz.ntmps57
 go_upto_region 1 with fail
 rw [← uh HW1, ← uh HNB]
 clear HW1 HNB
 go_wp2_with fail
 refine (uh HTK).mono ?_
 rintro e w2 ⟨rfl, p2, f2⟩
 have R2 := hide ((uh R1).step p2 f2)
 have HLI := hide (uh HLL w2 p2 (uh R2).env (uh HM w2 (uh R2).fr))
 have HS2 : Hid (w.heap.size ≤ w2.heap.size ∧ nb < w2.heap.size ∧ b < w2.heap.size) := hide ⟨lee (lee (uh HWB).1 (lel (uh HWB).2)) f2.size, lle (uh HWB).2 f2.size, p2.lt⟩
 clear p2 f2 R1 HTK HLL
 unfold Reads at HLI
 go_wp2_with fail
 refine (uh HLI).mono ?_
 rintro e w3 ⟨x, rfl, HG⟩
 have R3 := hide ((uh R2).step (uh HG).pz (uh HG).fr)
 obtain ⟨g, hg⟩ : ∃ g, g = w3.heap.size := ⟨_, rfl⟩
 obtain ⟨W4, hW4⟩ : ∃ W4, W4 = w3.alloc (.cells #[.int .i64 x.k, .bool x.no, .slice x.al x.nl x.cl, .slice x.aw x.nw x.cw, .slice x.ar x.nr x.cr, .slice x.ac x.nc x.cc, .string (BA x.nm), .bool x.ev, .slice x.ai x.ni x.ci] 33) := ⟨_, rfl⟩
 have b4 : Below w3.heap.size w3 W4 := by rw [hW4]; exact (Below.refl _ w3).alloc (ler _) _
 have R4 := hide ((uh R3).below b4)
 have k4 : Blk W4 g 33 #[.int .i64 x.k, .bool x.no, .slice x.al x.nl x.cl, .slice x.aw x.nw x.cw, .slice x.ar x.nr x.cr, .slice x.ac x.nc x.cc, .string (BA x.nm), .bool x.ev, .slice x.ai x.ni x.ci] := by rw [hW4, hg]; exact Blk.new _ _ _
 have HCM : Hid (CmAt W4 (New w2 W4) (lst s.take).1 x.l) := hide ((uh HG).cm.kept (fun k hk => b4.block k hk.2) (fun k hk => ⟨hk.1, lle hk.2 b4.size⟩))
 have HG5 : Hid (b < g ∧ w2.heap.size ≤ W4.heap.size) := hide ⟨by have h1 := (uh HG).fr.size; have h2 := (uh HS2).2; omega, lee (uh HG).fr.size b4.size⟩
 have HCT : Hid (∀ W, Below W4.heap.size W4 W → Calls Tryz.prog 62 #[.pointer (some ⟨b, 0, none⟩)] W fun e w' => ∃ x2 : CV, e = .returned (.agg #[.int .i64 x2.k, .bool x2.no, .slice x2.al x2.nl x2.cl, .slice x2.aw x2.nw x2.cw, .slice x2.ar x2.nr x2.cr, .slice x2.ac x2.nc x2.cc, .string (BA x2.nm), .bool x2.ev, .slice x2.ai x2.ni x2.ci]) ∧ (w'.cell? ⟨g, 0, none⟩ = some (.int .i64 x.k) ∧ w'.cell? ⟨g, 1, none⟩ = some (.bool x.no) ∧ w'.cell? ⟨g, 2, none⟩ = some (.slice x.al x.nl x.cl) ∧ w'.cell? ⟨g, 3, none⟩ = some (.slice x.aw x.nw x.cw) ∧ w'.cell? ⟨g, 4, none⟩ = some (.slice x.ar x.nr x.cr) ∧ w'.cell? ⟨g, 5, none⟩ = some (.slice x.ac x.nc x.cc) ∧ w'.cell? ⟨g, 6, none⟩ = some (.string (BA x.nm)) ∧ w'.cell? ⟨g, 7, none⟩ = some (.bool x.ev) ∧ w'.cell? ⟨g, 8, none⟩ = some (.slice x.ai x.ni x.ci)) ∧ Hid (Lp2 w w2 w' b nb mp ((lst s.take).2.doGroup lst).2 (lst s.take).1 ((lst s.take).2.doGroup lst).1 x x2)) := hide (fun W hB => by
  have r := (uh R4).below hB
  have h := uh HDG W r.pz r.env (uh HM W r.fr)
  unfold Reads at h
  refine h.mono ?_
  rintro e w' ⟨x2, rfl, hgot⟩
  have hgot := uh hgot
  have hk := (k4.below hB k4.lt).grownS hgot.fr (fun e => by have := (uh HG5).1; omega)
  refine ⟨x2, rfl, ⟨hk.cell 0 rfl, hk.cell 1 rfl, hk.cell 2 rfl, hk.cell 3 rfl, hk.cell 4 rfl, hk.cell 5 rfl, hk.cell 6 rfl, hk.cell 7 rfl, hk.cell 8 rfl⟩, hide ⟨r.step hgot.pz hgot.fr, ?_, hgot.cm.kept (fun _ _ => rfl) (fun k hk => ⟨lee (lee (uh HG5).2 hB.size) hk.1, hk.2⟩), lee (uh HG5).2 (lee hB.size hgot.fr.size)⟩⟩
  exact (uh HCM).kept (fun k hk => (hgot.fr.block k (lle hk.2 hB.size) (fun e => by have := hk.1; have := (uh HS2).2.2; omega)).trans (hB.block k hk.2)) (fun k hk => ⟨hk.1, lle hk.2 (lee hB.size hgot.fr.size)⟩))
 obtain ⟨c0, c1, c2, c3, c4, c5, c6, c7, c8⟩ := cel9 k4
 have HW4 := hide hW4
 have HGG := hide hg
 clear hW4 hg b4 k4 R2 R3 R4 HG HLI HDG HCM
 go_upto_region 3 with fail
 rw [← uh HGG, ← uh HW4]
 clear HW4 HGG
 refine wp_region_held_drew (S := fun _ => True) (by kernel_rfl) trivial (fun hHeld => ?_)
 refine tk 0 (v := ?_) ?_ ?_
 rotate_left
 ·intro w hSw; (try dsimp only at hSw); go_simp; (try with_reducible rfl)
 go_frame
 refine tk 2 (v := ?_) ?_ ?_
 rotate_left
 ·intro w hSw; (try dsimp only at hSw); go_simp; (try with_reducible rfl)
 go_frame
 refine wpAnyH_ready (rs := [1, 3]) (by kernel_rfl) (by simp) ?_
 refine AllReadyH.cons rfl (fun KK hKK => ?_) (AllReadyH.cons rfl (fun KK hKK => ?_) AllReadyH.nil)
 focus
  go_simp
  refine hKK.out _ _ trivial (fun hHeld => ?_)
  clear hKK KK
  try go_frame
  refine rd1 3 (fun KK hKK => ?_)
  go_simp
  refine (uh HCT _ (by first | exact Below.refl _ _ | exact below_drew' _ _)).mono ?_
  rintro e w5 ⟨x2, rfl, ⟨d0, d1, d2, d3, d4, d5, d6, d7, d8⟩, HG5⟩
  refine hKK.out _ _ trivial (fun hHeld => ?_)
  clear hKK KK
  try go_frame
  refine rd1 4 (fun KK hKK => ?_)
  go_simp
  obtain ⟨W6, hW6⟩ : ∃ W6, W6 = w5.alloc (.cells #[.int .i64 x.k, .bool x.no, .slice x.al x.nl x.cl, .slice x.aw x.nw x.cw, .slice x.ar x.nr x.cr, .slice x.ac x.nc x.cc, .string (BA x.nm), .bool x.ev, .slice x.ai x.ni x.ci, .int .i64 x2.k, .bool x2.no, .slice x2.al x2.nl x2.cl, .slice x2.aw x2.nw x2.cw, .slice x2.ar x2.nr x2.cr, .slice x2.ac x2.nc x2.cc, .string (BA x2.nm), .bool x2.ev, .slice x2.ai x2.ni x2.ci] 33) := ⟨_, rfl⟩
  obtain ⟨g6, hg6⟩ : ∃ g6, g6 = w5.heap.size := ⟨_, rfl⟩
  rw [← hW6, ← hg6]
  have HFIN := hide (loop_fin (kind := kind) (uh HG5) (uh HG5).s25 (uh HS2) hW6 hg6)
  have HR6 := hide (uh HFIN).1
  obtain ⟨z0, z1, z2, z3, z4, z5, z6, z7, z8⟩ := cel9 (uh HR6).res
  have zf : ∀ i, W6.frozen? ⟨nb, i, none⟩ = false := fun i => (uh HR6).res.frozen i
  clear hW6 hg6 HG5 HR6
  refine hKK.out _ _ trivial (fun hHeld => ?_)
  clear hKK KK
  try go_frame
  refine tk 5 (v := ?_) ?_ ?_
  rotate_left
  ·intro w hSw; (try dsimp only at hSw); go_simp; (try with_reducible rfl)
  go_frame
  refine rd1 6 (fun KK hKK => ?_)
  go_simp
  refine hKK.out _ _ trivial (fun hHeld => ?_)
  clear hKK KK
  try go_frame
  clear hHeld
  refine wpAnyH_done (by kernel_rfl) ?_ _
 rotate_left
 focus
  go_simp
  refine (uh HCT _ (by first | exact Below.refl _ _ | exact below_drew' _ _)).mono ?_
  rintro e w5 ⟨x2, rfl, ⟨d0, d1, d2, d3, d4, d5, d6, d7, d8⟩, HG5⟩
  refine hKK.out _ _ trivial (fun hHeld => ?_)
  clear hKK KK
  try go_frame
  refine rd1 1 (fun KK hKK => ?_)
  go_simp
  refine hKK.out _ _ trivial (fun hHeld => ?_)
  clear hKK KK
  try go_frame
  refine rd1 4 (fun KK hKK => ?_)
  go_simp
  obtain ⟨W6, hW6⟩ : ∃ W6, W6 = w5.alloc (.cells #[.int .i64 x.k, .bool x.no, .slice x.al x.nl x.cl, .slice x.aw x.nw x.cw, .slice x.ar x.nr x.cr, .slice x.ac x.nc x.cc, .string (BA x.nm), .bool x.ev, .slice x.ai x.ni x.ci, .int .i64 x2.k, .bool x2.no, .slice x2.al x2.nl x2.cl, .slice x2.aw x2.nw x2.cw, .slice x2.ar x2.nr x2.cr, .slice x2.ac x2.nc x2.cc, .string (BA x2.nm), .bool x2.ev, .slice x2.ai x2.ni x2.ci] 33) := ⟨_, rfl⟩
  obtain ⟨g6, hg6⟩ : ∃ g6, g6 = w5.heap.size := ⟨_, rfl⟩
  rw [← hW6, ← hg6]
  have HFIN := hide (loop_fin (kind := kind) (uh HG5) (uh HG5).s25 (uh HS2) hW6 hg6)
  have HR6 := hide (uh HFIN).1
  obtain ⟨z0, z1, z2, z3, z4, z5, z6, z7, z8⟩ := cel9 (uh HR6).res
  have zf : ∀ i, W6.frozen? ⟨nb, i, none⟩ = false := fun i => (uh HR6).res.frozen i
  clear hW6 hg6 HG5 HR6
  refine hKK.out _ _ trivial (fun hHeld => ?_)
  clear hKK KK
  try go_frame
  refine tk 5 (v := ?_) ?_ ?_
  rotate_left
  ·intro w hSw; (try dsimp only at hSw); go_simp; (try with_reducible rfl)
  go_frame
  refine rd1 6 (fun KK hKK => ?_)
  go_simp
  refine hKK.out _ _ trivial (fun hHeld => ?_)
  clear hKK KK
  try go_frame
  clear hHeld
  refine wpAnyH_done (by kernel_rfl) ?_ _
 rotate_left
 all_goals
  clear c0 c1 c2 c3 c4 c5 c6 c7 c8 HCT
  go_wp2
  refine bodyPost_ret (results_cell_row (P := Tryz.prog) rfl _ _ nb 33 _ (0, 0) _ rfl (uh HFIN).2.1 Tryz.underlying33 rfl (by kernel_rfl)) rfl ⟨⟨kind, false, none, 0, 0, none, 0, 0, none, 0, 0, some ⟨g6, 0, none⟩, 2, 2, [], false, none, 0, 0⟩, rfl, hide (by rw [uh HR]; exact (uh HFIN).2.2)⟩
end Go.Proofs.YtojjfdobilkknaaGreatDoor

/- The parser: while, until; a command whose commands are appended to.; The parser: a command that others may stand in.; The parser: a command that begins with a reserved word or a bracket, and its redirections. -/
import Derived.Test.YtojjfdobilkknaaGreatDoorM24
import Derived.Test.YtojjfdobilkknaaGreatDoorM14
import Derived.Defers
import Derived.Deep.RegionHeld3
import Derived.Maps.OwnSet
import Derived.Maps.Ext
set_option maxRecDepth 20000
set_option maxHeartbeats 4000000
namespace Go.Proofs.YtojjfdobilkknaaGreatDoor
open Go.RowKit
theorem pwhile_any (w : World) (b : Nat) (mp : Value) (s : Pz) (H : PzAt w b mp s) (he : PEnv w) (hb : 7 ≤ b) (hm : MpAt w b mp) (lst : Pz → Cm × Pz) (N : Nat) (HL : LstAt b mp lst N) (hle : ∀ s', (lst s').2.toks.length ≤ s'.toks.length) (hN : s.take.toks.length < N) : Reads 35 b mp (Pz.loop lst 9) w s := by
 obtain ⟨W1, hW1⟩ : ∃ W1, W1 = w.alloc (.cells #[.int .i64 0, .bool false, .slice none 0 0, .slice none 0 0, .slice none 0 0, .slice none 0 0, .string ⟨#[]⟩, .bool false, .slice none 0 0] 33) := ⟨_, rfl⟩
 obtain ⟨nb, hnb⟩ : ∃ nb, nb = w.heap.size := ⟨_, rfl⟩
 have R1 : Hid (RS w W1 b nb mp 33 #[.int .i64 0, .bool false, .slice none 0 0, .slice none 0 0, .slice none 0 0, .slice none 0 0, .string ⟨#[]⟩, .bool false, .slice none 0 0] s) := hide (by rw [hW1, hnb]; exact rs_begin H he hb)
 have HM : Hid (∀ W, Fr w W b → MpAt W b mp) := hide (fun W h => hm.fr h)
 have HW1 := hide hW1
 have HNB := hide hnb
 have HC := hide (ploop_any W1 b mp s (uh R1).pz (uh R1).env hb (uh HM W1 (uh R1).fr) lst N HL hle 9 hN)
 have HWB : Hid (w.heap.size ≤ W1.heap.size ∧ nb < W1.heap.size) := hide ⟨lee (uh R1).new (lel (uh R1).res.lt), (uh R1).res.lt⟩
 unfold Reads
 obtain ⟨R, hR⟩ : ∃ R, R = (Pz.loop lst 9) s := ⟨_, rfl⟩
 change Hid (Calls _ _ _ _ fun e w' => ∃ x : CV, e = .returned (.agg #[.int .i64 x.k, .bool x.no, .slice x.al x.nl x.cl, .slice x.aw x.nw x.cw, .slice x.ar x.nr x.cr, .slice x.ac x.nc x.cc, .string (BA x.nm), .bool x.ev, .slice x.ai x.ni x.ci]) ∧ Hid (Got W1 w' b mp ((Pz.loop lst 9) s) x)) at HC
 rw [← hR] at HC ⊢
 clear hR hW1 hnb H he hm HL hN hle
 go_enter Tryz.func35, Tryz.ntmps35
 go_upto_region 1 with fail
 rw [← uh HW1, ← uh HNB]
 clear HW1 HNB
 go_wp2_with fail
 refine (uh HC).mono ?_
 rintro e w2 ⟨x, rfl, HG⟩
 have R2 := hide ((uh R1).step (uh HG).pz (uh HG).fr)
 have HFIN := hide ((uh R2).fin (uh HG).cm (new_ne (uh HWB).1 (uh HWB).2))
 obtain ⟨z0, z1, z2, z3, z4, z5, z6, z7, z8⟩ := cel9 (uh R2).res
 have zf : ∀ i, w2.frozen? ⟨nb, i, none⟩ = false := fun i => (uh R2).res.frozen i
 clear R1 HC R2 HG
 go_wp2
 refine bodyPost_ret (results_cell_row (P := Tryz.prog) rfl _ _ nb 33 _ (0, 0) _ rfl (uh HFIN).1 Tryz.underlying33 rfl (by kernel_rfl)) rfl ⟨x, rfl, hide (uh HFIN).2⟩
theorem puntil_any (w : World) (b : Nat) (mp : Value) (s : Pz) (H : PzAt w b mp s) (he : PEnv w) (hb : 7 ≤ b) (hm : MpAt w b mp) (lst : Pz → Cm × Pz) (N : Nat) (HL : LstAt b mp lst N) (hle : ∀ s', (lst s').2.toks.length ≤ s'.toks.length) (hN : s.take.toks.length < N) : Reads 36 b mp (Pz.loop lst 10) w s := by
 obtain ⟨W1, hW1⟩ : ∃ W1, W1 = w.alloc (.cells #[.int .i64 0, .bool false, .slice none 0 0, .slice none 0 0, .slice none 0 0, .slice none 0 0, .string ⟨#[]⟩, .bool false, .slice none 0 0] 33) := ⟨_, rfl⟩
 obtain ⟨nb, hnb⟩ : ∃ nb, nb = w.heap.size := ⟨_, rfl⟩
 have R1 : Hid (RS w W1 b nb mp 33 #[.int .i64 0, .bool false, .slice none 0 0, .slice none 0 0, .slice none 0 0, .slice none 0 0, .string ⟨#[]⟩, .bool false, .slice none 0 0] s) := hide (by rw [hW1, hnb]; exact rs_begin H he hb)
 have HM : Hid (∀ W, Fr w W b → MpAt W b mp) := hide (fun W h => hm.fr h)
 have HW1 := hide hW1
 have HNB := hide hnb
 have HC := hide (ploop_any W1 b mp s (uh R1).pz (uh R1).env hb (uh HM W1 (uh R1).fr) lst N HL hle 10 hN)
 have HWB : Hid (w.heap.size ≤ W1.heap.size ∧ nb < W1.heap.size) := hide ⟨lee (uh R1).new (lel (uh R1).res.lt), (uh R1).res.lt⟩
 unfold Reads
 obtain ⟨R, hR⟩ : ∃ R, R = (Pz.loop lst 10) s := ⟨_, rfl⟩
 change Hid (Calls _ _ _ _ fun e w' => ∃ x : CV, e = .returned (.agg #[.int .i64 x.k, .bool x.no, .slice x.al x.nl x.cl, .slice x.aw x.nw x.cw, .slice x.ar x.nr x.cr, .slice x.ac x.nc x.cc, .string (BA x.nm), .bool x.ev, .slice x.ai x.ni x.ci]) ∧ Hid (Got W1 w' b mp ((Pz.loop lst 10) s) x)) at HC
 rw [← hR] at HC ⊢
 clear hR hW1 hnb H he hm HL hN hle
 go_enter Tryz.func36, Tryz.ntmps36
 go_upto_region 1 with fail
 rw [← uh HW1, ← uh HNB]
 clear HW1 HNB
 go_wp2_with fail
 refine (uh HC).mono ?_
 rintro e w2 ⟨x, rfl, HG⟩
 have R2 := hide ((uh R1).step (uh HG).pz (uh HG).fr)
 have HFIN := hide ((uh R2).fin (uh HG).cm (new_ne (uh HWB).1 (uh HWB).2))
 obtain ⟨z0, z1, z2, z3, z4, z5, z6, z7, z8⟩ := cel9 (uh R2).res
 have zf : ∀ i, w2.frozen? ⟨nb, i, none⟩ = false := fun i => (uh R2).res.frozen i
 clear R1 HC R2 HG
 go_wp2
 refine bodyPost_ret (results_cell_row (P := Tryz.prog) rfl _ _ nb 33 _ (0, 0) _ rfl (uh HFIN).1 Tryz.underlying33 rfl (by kernel_rfl)) rfl ⟨x, rfl, hide (uh HFIN).2⟩
structure Br (w W : World) (base b nb nc : Nat) (mp : Value) (s : Pz) (k : Int) (v : Value) (l : List Cm) : Prop where
 rs : RS w W b nb mp 33 #[.int .i64 0, .bool false, .slice none 0 0, .slice none 0 0, .slice none 0 0, .slice none 0 0, .string ⟨#[]⟩, .bool false, .slice none 0 0] s
 cb : Blk W nc 33 #[.int .i64 k, .bool false, .slice none 0 0, .slice none 0 0, .slice none 0 0, v, .string ⟨#[]⟩, .bool false, .slice none 0 0]
 row : GrowsG Kc (fun g => v.ownBlock = some g ∨ g = nc) W base v l
 ne : v.ownBlock ≠ some nc
 lo : w.heap.size ≤ base
 nbb : nb < base
 bb : b < base
 ncb : base ≤ nc
 fit : base ≤ W.heap.size
theorem Br.step {w W W' : World} {base b nb nc : Nat} {mp : Value} {s s' : Pz} {k : Int} {v : Value} {l : List Cm} (h : Br w W base b nb nc mp s k v l) (hp : PzAt W' b mp s') (hf : Fr W W' b) : Br w W' base b nb nc mp s' k v l :=
 ⟨h.rs.step hp hf, h.cb.grownS hf (fun e => by have := h.bb; have := h.ncb; omega), h.row.fr hf h.bb, h.ne, h.lo, h.nbb, h.bb, h.ncb, lee h.fit hf.size⟩
theorem Br.below {w W W' : World} {base b nb nc : Nat} {mp : Value} {s : Pz} {k : Int} {v : Value} {l : List Cm} (h : Br w W base b nb nc mp s k v l) (hb : Below W.heap.size W W') : Br w W' base b nb nc mp s k v l := h.step (h.rs.pz.below hb) (fr_below hb)
theorem Br.add {w W W1 : World} {base b nb nc : Nat} {mp : Value} {s : Pz} {k : Int} {v : Value} {l : List Cm} (h : Br w W base b nb nc mp s k v l) {r : Cm × Pz} {x : CV} (hg : Got W W1 b mp r x) (hl : l.length ≤ 100000) :
 ∃ ad n cap w3, (∀ ty, (Builtin.append_ #[23, 23] ty #[v, .slice (some ⟨W1.heap.size, 0, none⟩) 1 1]).run Tryz.prog (W1.alloc (.cells #[.int .i64 x.k, .bool x.no, .slice x.al x.nl x.cl, .slice x.aw x.nw x.cw, .slice x.ar x.nr x.cr, .slice x.ac x.nc x.cc, .string (BA x.nm), .bool x.ev, .slice x.ai x.ni x.ci] 33)) = .ok (.slice ad n cap) w3) ∧ Blk w3 nc 33 #[.int .i64 k, .bool false, .slice none 0 0, .slice none 0 0, .slice none 0 0, v, .string ⟨#[]⟩, .bool false, .slice none 0 0] ∧ Br w (w3.setCell ⟨nc, 5, none⟩ (.slice ad n cap)) base b nb nc mp r.2 k (.slice ad n cap) (l ++ [r.1]) := by
 have h1 := h.step hg.pz hg.fr
 obtain ⟨i, hi1, hi2, hi3, hi4⟩ := pinfo (t := Kc.t) (z := some (.agg #[.int .i64 0, .bool false, .slice none 0 0, .slice none 0 0, .slice none 0 0, .slice none 0 0, .string ⟨#[]⟩, .bool false, .slice none 0 0])) (a := Kc.sz) (c := 160) (by kernel_rfl)
 have hnc := h.cb.lt
 obtain ⟨v', w3, hr, ha, hgr, hk, hvb, ad, n, cap, hv⟩ := h1.row.add (lo := W.heap.size) h.fit hg.fr.size (fun g hg2 => by
  rcases hg2 with e | e
  ·exact (h.row.own e).2.1
  ·rw [e]; exact hnc) (fun g e => .inl e) (cs := x.l) hg.cm 23 i (.agg #[.int .i64 0, .bool false, .slice none 0 0, .slice none 0 0, .slice none 0 0, .slice none 0 0, .string ⟨#[]⟩, .bool false, .slice none 0 0]) 160 (by kernel_rfl) hi1 hi2 hi3 hi4 (by kernel_rfl) (by decide) (by decide) hl
 subst hv
 have hnc1 : nc < W1.heap.size := lle hnc hg.fr.size
 have hnb := h.nbb
 have hbb := h.bb
 have hfit1 := h1.fit
 have r2 : Blk w3 nc 33 #[.int .i64 k, .bool false, .slice none 0 0, .slice none 0 0, .slice none 0 0, v, .string ⟨#[]⟩, .bool false, .slice none 0 0] := (hk nc hnc1 h.ne).trans h1.cb
 have hgg : GrownS W1 w3 (fun j => base ≤ j) := hgr
 have f3 := fr_set w3 nc 5 (.slice ad n cap)
 have hne' : (Value.slice ad n cap).ownBlock ≠ some nc := fun e => by
  rcases hvb nc e with e2 | e2
  ·exact h.ne e2
  ·omega
 have hncb := h.ncb
 have rs3 : RS w w3 b nb mp 33 #[.int .i64 0, .bool false, .slice none 0 0, .slice none 0 0, .slice none 0 0, .slice none 0 0, .string ⟨#[]⟩, .bool false, .slice none 0 0] r.2 := ⟨((leg_fr h1.rs.fr).trans (hgg.mono (fun j _ e => .inr (by have := h.lo; omega)))).fr, h1.rs.res.grownS hgg (by omega), h1.rs.pz.grownS hgg (fun j e => by omega), h1.rs.env.grown hgg (fun j e => by have := h1.rs.old; omega), h1.rs.new, h1.rs.lt, h1.rs.old⟩
 refine ⟨ad, n, cap, w3, hr, r2, ⟨⟨((leg_fr rs3.fr).trans (leg_new f3 (by have := h.lo; omega))).fr, rs3.res.grownS f3 (by omega), rs3.pz.grownS f3 (fun j e => by omega), rs3.env.grown f3 (fun j e => by have := rs3.old; omega), rs3.new, rs3.lt, rs3.old⟩, ?_, ?_, hne', h.lo, h.nbb, h.bb, h.ncb, lee hfit1 (lee hgg.size f3.size)⟩⟩
 ·have := r2.set 5 (.slice ad n cap)
  simpa using this
 ·exact (ha (fun g => (Value.slice ad n cap).ownBlock = some g ∨ g = nc) (fun g hg2 => by
   rcases hg2 with e | e
   ·exact .inr e
   ·exact .inl (.inr e))).other (r := some nc) (fun j hj hne => f3.block j hj (fun e => hne (by rw [e]))) (fun g e => by injection e with e; exact .inr e.symm) (fun g e e2 => by injection e2 with e2; exact hne' (by rw [e2]; exact e)) f3.size (fun g hg2 => .inl hg2)
end Go.Proofs.YtojjfdobilkknaaGreatDoor
namespace Go.Proofs.YtojjfdobilkknaaGreatDoor
open Go.RowKit Go.Maps
def Pz.setDeep (s : Pz) (d : Nat) : Pz := { s with deep := d }
theorem PzAt.setDeep {w : World} {b : Nat} {mp : Value} {s : Pz} (h : PzAt w b mp s) (d : Nat) (hd : d ≤ 40) : PzAt (w.setCell ⟨b, 2, none⟩ (.int .i64 (d : Int))) b mp (s.setDeep d) := by
 obtain ⟨ho, v, h1, h2⟩ := h
 refine ⟨⟨ho.few, ho.texts, hd⟩, v, ?_, h2.grownS (fr_set w b 2 _) (fun k e => by omega)⟩
 have := h1.set 2 (.int .i64 (d : Int))
 unfold pzC at this
 simp only [List.setIfInBounds_toArray, List.set_cons_zero, List.set_cons_succ] at this
 exact this
theorem PzAt.deepC {w : World} {b : Nat} {mp : Value} {s : Pz} (h : PzAt w b mp s) : w.cell? ⟨b, 2, none⟩ = some (.int .i64 (s.deep : Int)) ∧ w.frozen? ⟨b, 2, none⟩ = false := by
 obtain ⟨ho, v, h1, h2⟩ := h
 exact ⟨h1.cell 2 rfl, h1.frozen 2⟩
theorem dec_deferred (w : World) (u : FrameMode) (pb b d : Nat) (h0 : w.cell? ⟨pb, 0, none⟩ = some (.pointer (some ⟨b, 0, none⟩))) (h1 : w.cell? ⟨b, 2, none⟩ = some (.int .i64 (d : Int))) (h2 : w.frozen? ⟨b, 2, none⟩ = false) (hd : d ≤ 1000) : CallsD Tryz.prog 123 #[.pointer (some ⟨pb, 0, none⟩)] u w fun e u' w' => u' = u ∧ (e = .returned (.tuple #[]) ∧ w' = w.setCell ⟨b, 2, none⟩ (.int .i64 ((d : Int) - 1))) := by
 go_enter_d Tryz.func123, Tryz.ntmps123
 go_wp2
 go_end0
 exact ⟨rfl, rfl⟩
theorem pwithin_any (w : World) (b : Nat) (mp : Value) (s : Pz) (H : PzAt w b mp s) (he : PEnv w) (hb : 7 ≤ b) (hm : MpAt w b mp) (k : Nat) (r : Pz → Cm × Pz) (hk : ∀ args W, (callFunc k args).run Tryz.prog W = .ok (.enter k args) W) (hdp : (r (s.setDeep (s.deep + 1))).2.deep = s.deep + 1) (HRD : ∀ W, PzAt W b mp (s.setDeep (s.deep + 1)) → PEnv W → MpAt W b mp → Reads k b mp r W (s.setDeep (s.deep + 1))) : Calls Tryz.prog 101 #[.pointer (some ⟨b, 0, none⟩), .func (.func k) #[] #[]] w fun e w' => ∃ x : CV, e = .returned (.agg #[.int .i64 x.k, .bool x.no, .slice x.al x.nl x.cl, .slice x.aw x.nw x.cw, .slice x.ar x.nr x.cr, .slice x.ac x.nc x.cc, .string (BA x.nm), .bool x.ev, .slice x.ai x.ni x.ci]) ∧ Hid (Got w w' b mp (Pz.within r s) x) := by
 obtain ⟨W0, hW0⟩ : ∃ W0, W0 = w.alloc (.cells #[.pointer (some ⟨b, 0, none⟩)] 81) := ⟨_, rfl⟩
 obtain ⟨W1, hW1⟩ : ∃ W1, W1 = W0.alloc (.cells #[.int .i64 0, .bool false, .slice none 0 0, .slice none 0 0, .slice none 0 0, .slice none 0 0, .string ⟨#[]⟩, .bool false, .slice none 0 0] 33) := ⟨_, rfl⟩
 obtain ⟨pb, hpb⟩ : ∃ pb, pb = w.heap.size := ⟨_, rfl⟩
 obtain ⟨nb, hnb⟩ : ∃ nb, nb = W0.heap.size := ⟨_, rfl⟩
 have hs0 : W0.heap.size = pb + 1 := by rw [hW0, hpb]; simp
 have b0 : Below w.heap.size w W0 := by rw [hW0]; exact (Below.refl _ w).alloc (ler _) _
 have b1 : Below W0.heap.size W0 W1 := by rw [hW1]; exact (Below.refl _ W0).alloc (ler _) _
 have kp0 : Blk W0 pb 81 #[.pointer (some ⟨b, 0, none⟩)] := by rw [hW0, hpb]; exact Blk.new _ _ _
 have kp : Blk W1 pb 81 #[.pointer (some ⟨b, 0, none⟩)] := kp0.below b1 kp0.lt
 have b01 : Below w.heap.size w W1 := b0.trans (b1.mono b0.size)
 have hbl := H.lt
 have R1 : Hid (RS w W1 b nb mp 33 #[.int .i64 0, .bool false, .slice none 0 0, .slice none 0 0, .slice none 0 0, .slice none 0 0, .string ⟨#[]⟩, .bool false, .slice none 0 0] s) := hide ⟨fr_below b01, by rw [hW1, hnb]; exact Blk.new _ _ _, H.below b01, he.below b01, by omega, by omega, hb⟩
 have HKP := hide kp
 have HNN : Hid (b < pb ∧ pb < nb ∧ w.heap.size = pb ∧ nb < W1.heap.size) := hide ⟨by omega, by omega, hpb.symm, (uh R1).res.lt⟩
 have HM : Hid (∀ W, Fr w W b → MpAt W b mp) := hide (fun W h => hm.fr h)
 have p0 : W1.cell? ⟨pb, 0, none⟩ = some (.pointer (some ⟨b, 0, none⟩)) := kp.cell 0 rfl
 have d2 : W1.cell? ⟨b, 2, none⟩ = some (.int .i64 (s.deep : Int)) := (uh R1).pz.deepC.1
 have d3 : W1.frozen? ⟨b, 2, none⟩ = false := (uh R1).pz.deepC.2
 have hmf : ∀ (fn : Fn) (first cap : Array Value) (w : World), (Instr.makeFunc fn first cap).run Tryz.prog w = .ok (.func fn first cap) w := fun _ _ _ _ => rfl
 have hd40 := H.ok.deep
 have HW0 := hide hW0
 have HW1 := hide hW1
 have HPBE := hide hpb
 have HNBE := hide hnb
 have HS0 := hide hs0
 have HPN : Hid (pb + 1 = nb) := hide (by omega)
 obtain ⟨R, hR⟩ : ∃ R, R = Pz.within r s := ⟨_, rfl⟩
 have HR := hide hR
 rw [← hR]
 have HRDH := hide HRD
 have HDP := hide hdp
 clear hR hW0 hW1 hpb hnb hs0 b0 b1 b01 kp0 kp H he hm hbl HRD hdp
 by_cases h40 : s.deep = 40
 ·have HRE : Hid (R = (cm0, s.fail 3 s.next.pos)) := hide (by rw [uh HR]; unfold Pz.within; rw [if_pos h40])
  rw [h40] at d2
  have HNX : Hid (∀ W, Below W1.heap.size W1 W → Calls Tryz.prog 66 #[.pointer (some ⟨b, 0, none⟩)] W fun e w' => e = .returned (.agg s.next.cells) ∧ w'.cell? ⟨pb, 0, none⟩ = some (.pointer (some ⟨b, 0, none⟩)) ∧ Hid (Below W1.heap.size W1 w')) := hide (fun W hB => by
   refine (pnext_any W b mp s ((uh R1).pz.below hB)).mono ?_
   rintro e w' ⟨rfl, b2⟩
   have hb2 := hB.trans (b2.mono hB.size)
   exact ⟨rfl, ((uh HKP).below hb2 (uh HKP).lt).cell 0 rfl, hide hb2⟩)
  unfold Tok.cells at HNX
  have hfd := fld_tok2 s.next
  have HFL : Hid (∀ W, Below W1.heap.size W1 W → Calls Tryz.prog 44 #[.pointer (some ⟨b, 0, none⟩), .agg #[.int .i64 3, .int .i64 s.next.pos]] W fun e w' => e = .returned (.tuple #[]) ∧ w'.cell? ⟨pb, 0, none⟩ = some (.pointer (some ⟨b, 0, none⟩)) ∧ Hid (RS w w' b nb mp 33 #[.int .i64 0, .bool false, .slice none 0 0, .slice none 0 0, .slice none 0 0, .slice none 0 0, .string ⟨#[]⟩, .bool false, .slice none 0 0] (s.fail 3 s.next.pos))) := hide (fun W hB => by
   have r1 := (uh R1).below hB
   refine (pfail_any W b mp s 3 s.next.pos r1.pz).mono ?_
   rintro e w' ⟨rfl, p2, f2⟩
   exact ⟨rfl, (((uh HKP).below hB (uh HKP).lt).grownS f2 (fun e => by have := (uh HNN).1; omega)).cell 0 rfl, hide (r1.step p2 f2)⟩)
  clear h40
  go_enter_defers Tryz.func101, Tryz.ntmps101
  go_upto_region 1 with fail
  rw [← uh HW0, ← uh HW1, ← uh HPBE, uh HPN]
  clear HW0 HW1 HPBE HNBE HS0 HPN
  go_wp2_with fail
  go_region_held3 (fun w' => w'.cell? ⟨pb, 0, none⟩ = some (.pointer (some ⟨b, 0, none⟩))) (go_keep) ((first | (go_at_call 66; refine (uh HNX _ (by first | exact Below.refl _ _ | exact below_drew' _ _)).mono ?_; rintro e wa ⟨rfl, a0, HBA⟩) | (go_at_call 44; refine (uh HFL _ (by first | exact uh HBA | exact (uh HBA).trans ((below_drew' _ _).mono (uh HBA).size))).mono ?_; rintro e wb ⟨rfl, a1, HRX⟩)))
  have HFIN := hide ((uh HRX).fin (x := ⟨0, false, none, 0, 0, none, 0, 0, none, 0, 0, none, 0, 0, [], false, none, 0, 0⟩) (cm0_at wb (fun _ => False)) (fun k hk => hk.elim))
  obtain ⟨z0, z1, z2, z3, z4, z5, z6, z7, z8⟩ := cel9 (uh HRX).res
  have zf : ∀ i, wb.frozen? ⟨nb, i, none⟩ = false := fun i => (uh HRX).res.frozen i
  clear HRX HNX HFL a0 a1 HBA p0 d2 d3 hfd
  go_wp2_with fail
  refine ⟨_, results_cell_row (P := Tryz.prog) rfl _ _ nb 33 _ (0, 0) _ rfl (uh HFIN).1 Tryz.underlying33 rfl (by kernel_rfl), ⟨0, false, none, 0, 0, none, 0, 0, none, 0, 0, none, 0, 0, [], false, none, 0, 0⟩, rfl, hide (by rw [uh HRE]; exact (uh HFIN).2)⟩
 ·have HRE : Hid (R = ((r (s.setDeep (s.deep + 1))).1, { (r (s.setDeep (s.deep + 1))).2 with deep := (r (s.setDeep (s.deep + 1))).2.deep - 1 })) := hide (by rw [uh HR]; unfold Pz.within; rw [if_neg h40]; rfl)
  have hd39 : s.deep + 1 ≤ 40 := by omega
  have h41 : ((s.deep : Int) == 40) = false := by rw [beq_eq_false_iff_ne]; omega
  have hdb : s.deep ≤ 1000 := by omega
  obtain ⟨W2, hW2⟩ : ∃ W2, W2 = W1.setCell ⟨b, 2, none⟩ (.int .i64 ((s.deep : Int) + 1)) := ⟨_, rfl⟩
  have hc : (((s.deep + 1 : Nat)) : Int) = (s.deep : Int) + 1 := by omega
  have f2 : Fr W1 W2 b := by rw [hW2]; exact fr_set W1 b 2 _
  have p2 : PzAt W2 b mp (s.setDeep (s.deep + 1)) := by rw [hW2, ← hc]; exact (uh R1).pz.setDeep (s.deep + 1) hd39
  have R2 := hide ((uh R1).step p2 f2)
  have HKP2 := hide ((uh HKP).grownS f2 (fun e => by have := (uh HNN).1; omega))
  have HCL := hide (uh HRDH W2 p2 (uh R2).env (uh HM W2 (uh R2).fr))
  have q0 : W2.cell? ⟨pb, 0, none⟩ = some (.pointer (some ⟨b, 0, none⟩)) := (uh HKP2).cell 0 rfl
  have HSZ : Hid (w.heap.size ≤ W2.heap.size ∧ nb < W2.heap.size ∧ pb < W2.heap.size ∧ b < W2.heap.size) := hide ⟨(uh R2).fr.size, (uh R2).res.lt, (uh HKP2).lt, p2.lt⟩
  have HW2 := hide hW2
  clear hW2 hc f2 p2 R1 HKP HRDH h40 hd40
  unfold Reads at HCL
  go_enter_defers Tryz.func101, Tryz.ntmps101
  go_upto_region 1 with fail
  rw [← uh HW0, ← uh HW1, ← uh HPBE, uh HPN]
  clear HW0 HW1 HPBE HNBE HS0 HPN
  go_upto_region 5 with fail
  rw [← uh HW2]
  clear HW2 p0 d2 d3
  go_wp2_with fail
  refine (uh HCL).mono ?_
  rintro e w3 ⟨x, rfl, HG⟩
  have R3 := hide ((uh R2).step (uh HG).pz (uh HG).fr)
  have HFIN := hide ((uh R3).fin (uh HG).cm (new_ne (uh HSZ).1 (uh HSZ).2.1))
  have HKP3 := hide ((uh HKP2).grownS (uh HG).fr (fun e => by have := (uh HNN).1; omega))
  obtain ⟨z0, z1, z2, z3, z4, z5, z6, z7, z8⟩ := cel9 (uh R3).res
  have zf : ∀ i, w3.frozen? ⟨nb, i, none⟩ = false := fun i => (uh R3).res.frozen i
  have HKP4 := hide ((uh HKP3).grownS (L9_grown w3 nb (.int .i64 x.k) (.bool x.no) (.slice x.al x.nl x.cl) (.slice x.aw x.nw x.cw) (.slice x.ar x.nr x.cr) (.slice x.ac x.nc x.cc) (.string (BA x.nm)) (.bool x.ev) (.slice x.ai x.ni x.ci)) (fun e => by have := (uh HNN).2.1; omega))
  clear R2 HCL HKP2 HKP3 q0 R3 HG
  go_wp2_with fail
  obtain ⟨W4, hW4⟩ : ∃ W4, W4 = L9 w3 nb (.int .i64 x.k) (.bool x.no) (.slice x.al x.nl x.cl) (.slice x.aw x.nw x.cw) (.slice x.ar x.nr x.cr) (.slice x.ac x.nc x.cc) (.string (BA x.nm)) (.bool x.ev) (.slice x.ai x.ni x.ci) := ⟨_, rfl⟩
  unfold L9 at hW4
  have HFX := hide (And.intro (uh HFIN).1 (uh HFIN).2)
  unfold L9 at HFX HKP4
  rw [← hW4] at HFX HKP4 ⊢
  have hdd := uh HDP
  have g0 := (uh HFX).2.pz.deepC
  change W4.cell? _ = some (.int .i64 ((r (s.setDeep (s.deep + 1))).2.deep : Int)) ∧ _ at g0
  rw [hdd] at g0
  refine leaves_cons (f := 123) (args := #[.pointer (some ⟨pb, 0, none⟩)]) (by simp) (by simp [go_sem]) ?_
  refine (dec_deferred W4 .returning pb b (s.deep + 1) ((uh HKP4).cell 0 rfl) g0.1 g0.2 (by omega)).mono ?_
  rintro e u' w'' ⟨rfl, rfl, rfl⟩
  have hc : (((s.deep + 1 : Nat)) : Int) - 1 = (s.deep : Int) := by omega
  rw [hc]
  have f5 := fr_set W4 b 2 (.int .i64 (s.deep : Int))
  have hbn : b < nb := by have := uh HNN; omega
  have k5 := (uh HFX).1.grownS f5 (fun e => by omega)
  have hgt := (uh HFX).2
  refine ⟨_, results_cell_row (P := Tryz.prog) rfl _ _ nb 33 _ (0, 0) _ rfl k5 Tryz.underlying33 rfl (by kernel_rfl), x, rfl, hide ?_⟩
  rw [uh HRE]
  refine ⟨hgt.cm.kept (fun j hj => f5.block j hj.2 (fun e => by have := hj.1; have := uh HNN; omega)) (fun j hj => ⟨hj.1, lle hj.2 f5.size⟩), ?_, GrownS.trans hgt.fr f5⟩
  have := hgt.pz.setDeep s.deep (by omega)
  rw [hdd]
  exact this
theorem strKeyed : Keyed Tryz.prog 9 := string_keyed Tryz.underlying9
theorem hk_str (l : List UInt8) (h : l.length ≤ maxLen) : keyOf Tryz.prog 9 (.string (BA l)) = some (.string l) := WideMaps.keyOf_string_mk Tryz.underlying9 (by show l.length ≤ maxLen; exact h)
theorem und_bgs : Tryz.prog.underlying 42 = some (.map 9 80) := by kernel_rfl
theorem zero_bg (w : World) : (zeroValue 80).run Tryz.prog w = .ok .nilFunc w := by kernel_rfl
theorem MpAt.look {w : World} {b : Nat} {mp : Value} (h : MpAt w b mp) (t : List UInt8) (ht : t.length ≤ 1000000) : ∃ mb, mp = .map (some mb) ∧ (Instr.lookup 42 (.map (some mb)) (.string (BA t)) false).run Tryz.prog w = .ok (bgV t) w := by
 obtain ⟨mb, n, D, h1, _, _, h4, h5⟩ := h
 obtain ⟨v, ps, h6, h7⟩ := h4.lookup strKeyed und_bgs (zero_bg w) (zd := .held .nilFunc) (zp := []) rfl (hk_str t (by unfold maxLen; omega))
 have hv : D.atKey (.string t) (.held .nilFunc) = .held v := (Prod.mk.inj (Option.some.inj h7)).1.symm
 rw [h5 t] at hv
 rw [DataW.held.inj hv]
 exact ⟨mb, h1, h6⟩
theorem CmAt.setRedirs {w : World} {A : Nat → Prop} {c : Cm} {x : CV} {ad : Option Addr} {n cap : Nat} {q : List (Int × Int × Wd)} (h : CmAt w A c x.l) (hr : RowAt Kr w A (.slice ad n cap) q) : CmAt w A (c.setRedirs q) (CV.l { x with ar := ad, nr := n, cr := cap }) := by
 obtain ⟨k, no, lets, words, redirs, cmds, name, ev, items⟩ := c
 obtain ⟨vl, vw, vr, vc, vi, e, h1, h2, h3, h4, h5⟩ := h.rows
 have h6 := CmAt.of (k := k) (no := no) (name := name) (ev := ev) h1 h2 hr h4 h5
 unfold CV.l at e ⊢
 injection e with e0 e
 injection e with e1 e
 injection e with e2 e
 injection e with e3 e
 injection e with e4 e
 injection e with e5 e
 injection e with e6 e
 injection e with e7 e
 injection e with e8 e
 dsimp only
 rw [e0, e1, e2, e3, e5, e6, e7, e8]
 exact h6
theorem pcompound_any (w : World) (b : Nat) (mp : Value) (s : Pz) (H : PzAt w b mp s) (he : PEnv w) (hb : 7 ≤ b) (hm : MpAt w b mp) (lst : Pz → Cm × Pz) (hbg : ∀ rr, Pz.beginOf lst s.next.text = some rr → ∃ kk, bgV s.next.text.data.toList = .func (.func kk) #[] #[] ∧ ∀ W, PzAt W b mp s → PEnv W → MpAt W b mp → Calls Tryz.prog 101 #[.pointer (some ⟨b, 0, none⟩), .func (.func kk) #[] #[]] W fun e w' => ∃ x : CV, e = .returned (.agg #[.int .i64 x.k, .bool x.no, .slice x.al x.nl x.cl, .slice x.aw x.nw x.cw, .slice x.ar x.nr x.cr, .slice x.ac x.nc x.cc, .string (BA x.nm), .bool x.ev, .slice x.ai x.ni x.ci]) ∧ Hid (Got W w' b mp (Pz.within rr s) x)) (hbn : Pz.beginOf lst s.next.text = none → bgV s.next.text.data.toList = .nilFunc) : Reads 99 b mp (Pz.compound lst) w s := by
 obtain ⟨W1, hW1⟩ : ∃ W1, W1 = w.alloc (.cells #[.int .i64 0, .bool false, .slice none 0 0, .slice none 0 0, .slice none 0 0, .slice none 0 0, .string ⟨#[]⟩, .bool false, .slice none 0 0] 33) := ⟨_, rfl⟩
 obtain ⟨nb, hnb⟩ : ∃ nb, nb = w.heap.size := ⟨_, rfl⟩
 have R1 : Hid (RS w W1 b nb mp 33 #[.int .i64 0, .bool false, .slice none 0 0, .slice none 0 0, .slice none 0 0, .slice none 0 0, .string ⟨#[]⟩, .bool false, .slice none 0 0] s) := hide (by rw [hW1, hnb]; exact rs_begin H he hb)
 have HM : Hid (∀ W, Fr w W b → MpAt W b mp) := hide (fun W h => hm.fr h)
 have HW1 := hide hW1
 have HNB := hide hnb
 obtain ⟨l, hl⟩ : ∃ l, l = s.next.text.data.toList := ⟨_, rfl⟩
 have htx : s.next.text = BA l := by rw [hl]; exact (BA_of _).symm
 have hlen : l.length ≤ 1000000 := by rw [hl, data_len]; exact lee H.ok.next.1 (by decide)
 obtain ⟨mb, hmb⟩ : ∃ mb, mp = .map (some mb) := by obtain ⟨mb, _, _, h1, _⟩ := hm; exact ⟨mb, h1⟩
 subst hmb
 have c1 : W1.cell? ⟨b, 1, none⟩ = some (.map (some mb)) := by obtain ⟨_, v, h1, _⟩ := (uh R1).pz; exact h1.cell 1 rfl
 have HNX : Hid (∀ W, Below W1.heap.size W1 W → Calls Tryz.prog 66 #[.pointer (some ⟨b, 0, none⟩)] W fun e w' => e = .returned (.agg #[.int .i64 s.next.kind, .string (BA l), .int .i64 s.next.pos, .string s.next.body, .bool s.next.raw]) ∧ w'.cell? ⟨b, 1, none⟩ = some (.map (some mb)) ∧ (Instr.lookup 42 (.map (some mb)) (.string (BA l)) false).run Tryz.prog w' = .ok (bgV l) w' ∧ Hid (Below W1.heap.size W1 w')) := hide (fun W hB => by
  have h := pnext_any W b (.map (some mb)) s ((uh R1).pz.below hB)
  unfold Tok.cells at h
  rw [htx] at h
  refine h.mono ?_
  rintro e w' ⟨rfl, b2⟩
  have hb2 := hB.trans (b2.mono hB.size)
  have r2 := (uh R1).below hb2
  obtain ⟨mb2, e2, e3⟩ := (uh HM w' r2.fr).look l hlen
  injection e2 with e2
  injection e2 with e2
  subst e2
  refine ⟨rfl, ?_, e3, hide hb2⟩
  obtain ⟨_, v, h1, _⟩ := r2.pz
  exact h1.cell 1 rfl)
 have hfd : ∀ W, (Instr.field 74 (.agg #[.int .i64 s.next.kind, .string (BA l), .int .i64 s.next.pos, .string s.next.body, .bool s.next.raw]) 1).run Tryz.prog W = .ok (.string (BA l)) W := fun W => by kernel_rfl
 have HWB : Hid (w.heap.size ≤ W1.heap.size ∧ nb < W1.heap.size ∧ b < W1.heap.size) := hide ⟨(uh R1).fr.size, (uh R1).res.lt, (uh R1).pz.lt⟩
 unfold Reads
 obtain ⟨R, hR⟩ : ∃ R, R = s.compound lst := ⟨_, rfl⟩
 rw [← hR]
 rw [← hl] at hbg hbn
 unfold Pz.compound at hR
 cases hbo : Pz.beginOf lst s.next.text with
 | none =>
   rw [hbo] at hR
   have HR : Hid (R = (cm0, s.misfit)) := hide hR
   have hv := hbn hbo
   rw [hv] at HNX
   have hcm : ∀ W, (binOp .eql 80 .nilFunc .nilFunc).run Tryz.prog W = .ok (.bool true) W := fun W => by kernel_rfl
   clear hbg hbn hbo hv hR hW1 hnb H he hm hl htx
   go_enter Tryz.func99, Tryz.ntmps99
   go_upto_region 1 with fail
   rw [← uh HW1, ← uh HNB]
   clear HW1 HNB
   go_wp2_with fail
   go_region_held3 (fun w' => w'.cell? ⟨b, 1, none⟩ = some (.map (some mb))) (go_keep) ((go_at_call 66; refine (uh HNX _ (by first | exact Below.refl _ _ | exact below_drew' _ _)).mono ?_; rintro e wa ⟨rfl, a0, hlk, HBA⟩))
   have R2 := hide ((uh R1).below (uh HBA))
   have HMF := hide (pmisfit_any wa b (.map (some mb)) s (uh R2).pz)
   clear a0 hlk HBA R1 HNX c1
   go_wp2_with fail
   refine (uh HMF).mono ?_
   rintro e w3 ⟨rfl, p3, f3⟩
   have R3 := hide ((uh R2).step p3 f3)
   have HFIN := hide ((uh R3).fin (x := ⟨0, false, none, 0, 0, none, 0, 0, none, 0, 0, none, 0, 0, [], false, none, 0, 0⟩) (cm0_at w3 (fun _ => False)) (fun k hk => hk.elim))
   obtain ⟨z0, z1, z2, z3, z4, z5, z6, z7, z8⟩ := cel9 (uh R3).res
   have zf : ∀ i, w3.frozen? ⟨nb, i, none⟩ = false := fun i => (uh R3).res.frozen i
   clear p3 f3 R2 R3 HMF
   go_wp2
   refine bodyPost_ret (results_cell_row (P := Tryz.prog) rfl _ _ nb 33 _ (0, 0) _ rfl (uh HFIN).1 Tryz.underlying33 rfl (by kernel_rfl)) rfl ⟨⟨0, false, none, 0, 0, none, 0, 0, none, 0, 0, none, 0, 0, [], false, none, 0, 0⟩, rfl, hide (by rw [uh HR]; exact (uh HFIN).2)⟩
 | some rr =>
   rw [hbo] at hR
   have HR : Hid (R = ((Pz.within rr s).1.setRedirs (Pz.within rr s).2.redirs.1, (Pz.within rr s).2.redirs.2)) := hide hR
   obtain ⟨kk, hv, hwi⟩ := hbg rr hbo
   rw [hv] at HNX
   have HWI := hide hwi
   have hcm : ∀ W, (binOp .eql 80 (.func (.func kk) #[] #[]) .nilFunc).run Tryz.prog W = .ok (.bool false) W := fun W => by kernel_rfl
   clear hbg hbn hbo hv hR hW1 hnb H he hm hl htx hwi
   go_enter Tryz.func99, Tryz.ntmps99
   go_upto_region 1 with fail
   rw [← uh HW1, ← uh HNB]
   clear HW1 HNB
   go_wp2_with fail
   go_region_held3 (fun w' => w'.cell? ⟨b, 1, none⟩ = some (.map (some mb))) (go_keep) ((go_at_call 66; refine (uh HNX _ (by first | exact Below.refl _ _ | exact below_drew' _ _)).mono ?_; rintro e wa ⟨rfl, a0, hlk, HBA⟩))
   have R2 := hide ((uh R1).below (uh HBA))
   have HWC := hide (uh HWI wa (uh R2).pz (uh R2).env (uh HM wa (uh R2).fr))
   have HS2 : Hid (w.heap.size ≤ wa.heap.size ∧ nb < wa.heap.size ∧ b < wa.heap.size) := hide ⟨(uh R2).fr.size, (uh R2).res.lt, (uh R2).pz.lt⟩
   clear a0 hlk HBA R1 HNX c1 HWI
   go_wp2_with fail
   refine (uh HWC).mono ?_
   rintro e w3 ⟨x, rfl, HG⟩
   have R3 := hide ((uh R2).step (uh HG).pz (uh HG).fr)
   obtain ⟨g, hg⟩ : ∃ g, g = w3.heap.size := ⟨_, rfl⟩
   obtain ⟨W4, hW4⟩ : ∃ W4, W4 = w3.alloc (.cells #[.int .i64 x.k, .bool x.no, .slice x.al x.nl x.cl, .slice x.aw x.nw x.cw, .slice x.ar x.nr x.cr, .slice x.ac x.nc x.cc, .string (BA x.nm), .bool x.ev, .slice x.ai x.ni x.ci] 33) := ⟨_, rfl⟩
   have b4 : Below w3.heap.size w3 W4 := by rw [hW4]; exact (Below.refl _ w3).alloc (ler _) _
   have R4 := hide ((uh R3).below b4)
   have k4 : Blk W4 g 33 #[.int .i64 x.k, .bool x.no, .slice x.al x.nl x.cl, .slice x.aw x.nw x.cw, .slice x.ar x.nr x.cr, .slice x.ac x.nc x.cc, .string (BA x.nm), .bool x.ev, .slice x.ai x.ni x.ci] := by rw [hW4, hg]; exact Blk.new _ _ _
   have HCM : Hid (CmAt W4 (fun k => wa.heap.size ≤ k ∧ k < g) (Pz.within rr s).1 x.l) := hide ((uh HG).cm.kept (fun k hk => b4.block k hk.2) (fun k hk => ⟨hk.1, by rw [hg]; exact hk.2⟩))
   have HK4 := hide k4
   have HRD := hide (predirs_any W4 b (.map (some mb)) (Pz.within rr s).2 (uh R4).pz (uh R4).env hb)
   have HG5 : Hid (b < g ∧ nb < g ∧ wa.heap.size ≤ g ∧ g < W4.heap.size) := hide ⟨by have h1 := (uh HG).fr.size; have h2 := (uh HS2).2; omega, by have h1 := (uh HG).fr.size; have h2 := (uh HS2).2; omega, by rw [hg]; exact (uh HG).fr.size, k4.lt⟩
   have HW4 := hide hW4
   have HGG := hide hg
   clear hW4 hg b4 k4 R2 R3 HG HWC
   go_upto_region 6 with fail
   rw [← uh HGG, ← uh HW4]
   clear HW4 HGG
   go_wp2_with fail
   refine (uh HRD).mono ?_
   rintro e w5 ⟨v, rfl, r5, p5, f5⟩
   obtain ⟨ad, cap, hv, hrest⟩ := r5
   subst hv
   have HROW : Hid (RowAt Kr w5 (New W4 w5) (.slice ad (Pz.within rr s).2.redirs.1.length cap) (Pz.within rr s).2.redirs.1) := hide ⟨ad, cap, rfl, hrest⟩
   obtain ⟨n, hn⟩ : ∃ n, n = (Pz.within rr s).2.redirs.1.length := ⟨_, rfl⟩
   rw [← hn] at HROW ⊢
   have R5 := hide ((uh R4).step p5 f5)
   have k5 := (uh HK4).grownS f5 (fun e => by have := (uh HG5).1; omega)
   obtain ⟨W6, hW6⟩ : ∃ W6, W6 = w5.setCell ⟨g, 4, none⟩ (.slice ad n cap) := ⟨_, rfl⟩
   have f6 : GrownS w5 W6 (fun k => k = g) := by rw [hW6]; exact fr_set w5 g 4 _
   have k6 : Blk W6 g 33 #[.int .i64 x.k, .bool x.no, .slice x.al x.nl x.cl, .slice x.aw x.nw x.cw, .slice ad n cap, .slice x.ac x.nc x.cc, .string (BA x.nm), .bool x.ev, .slice x.ai x.ni x.ci] := by
    have := k5.set 4 (.slice ad n cap)
    simp only [List.setIfInBounds_toArray, List.set_cons_zero, List.set_cons_succ] at this
    rw [hW6]
    exact this
   have R6 := hide ((uh R5).turn f6 (uh HG5).2.1)
   have HCM6 : Hid (CmAt W6 (fun k => New wa W6 k ∧ k ≠ g) ((Pz.within rr s).1.setRedirs (Pz.within rr s).2.redirs.1) (CV.l { x with ar := ad, nr := n, cr := cap })) := hide (by
    have h45 := f5.size
    have h56 := f6.size
    refine CmAt.setRedirs ((uh HCM).kept ?_ ?_) ((uh HROW).kept ?_ ?_)
    ·intro k hk
     have h1 := (uh HG5).2.2.2
     have h2 := (uh HS2).2.2
     have h3 := hk.1
     have h4 := hk.2
     exact (f6.block k (by omega) (by omega)).trans (f5.block k (by omega) (by omega))
    ·intro k hk
     have h1 := (uh HG5).2.2.2
     have h4 := hk.2
     exact ⟨⟨hk.1, by omega⟩, by omega⟩
    ·intro k hk
     exact f6.block k hk.2 (fun e => by have := hk.1; have := (uh HG5).2.2.2; omega)
    ·intro k hk
     exact ⟨⟨by have := hk.1; have := (uh HG5).2.2; omega, lle hk.2 h56⟩, fun e => by have := hk.1; have := (uh HG5).2.2.2; omega⟩)
   have c4 : w5.cell? ⟨g, 4, none⟩ = some (.slice x.ar x.nr x.cr) := k5.cell 4 rfl
   have zg : w5.frozen? ⟨g, 4, none⟩ = false := k5.frozen 4
   have HK6 := hide k6
   have HFIN := hide ((uh R6).fin (uh HCM6) (fun k hk => ⟨lee (uh HS2).1 hk.1.1, hk.1.2, fun e => by have := hk.1.1; have := (uh HS2).2.1; omega⟩))
   have HW6 := hide hW6
   clear hW6 f6 k6 k5 R5 R4 HK4 HRD p5 f5 hrest HROW HCM HCM6 hn
   go_upto_region 7 with fail
   rw [← uh HW6]
   clear HW6 c4 zg
   obtain ⟨c0, c1, c2, c3, c4, c5, c6, c7, c8⟩ := cel9 (uh HK6)
   obtain ⟨z0, z1, z2, z3, z4, z5, z6, z7, z8⟩ := cel9 (uh R6).res
   have zf : ∀ i, W6.frozen? ⟨nb, i, none⟩ = false := fun i => (uh R6).res.frozen i
   clear HK6 R6
   go_wp2
   refine bodyPost_ret (results_cell_row (P := Tryz.prog) rfl _ _ nb 33 _ (0, 0) _ rfl (uh HFIN).1 Tryz.underlying33 rfl (by kernel_rfl)) rfl ⟨{ x with ar := ad, nr := n, cr := cap }, rfl, hide (by rw [uh HR]; exact (uh HFIN).2)⟩
end Go.Proofs.YtojjfdobilkknaaGreatDoor

/- The parser: and-or lists.; A command or an item in a block of its own, one of whose rows grows.; The parser: an item of a Case. -/
import Derived.Test.YtojjfdobilkknaaGreatDoorM28
import Derived.Test.YtojjfdobilkknaaGreatDoorM24
import Derived.Test.YtojjfdobilkknaaGreatDoorM14
import Derived.Maps.RangeWalk
set_option maxRecDepth 20000
set_option maxHeartbeats 16000000
namespace Go.Proofs.YtojjfdobilkknaaGreatDoor
open Go.RowKit Go.Maps
structure Lf (w1 W : World) (b lb : Nat) (mp : Value) (s : Pz) (c : Cm) (x : CV) : Prop where
 leg : Leg w1.heap.size b w1 W
 pz : PzAt W b mp s
 env : PEnv W
 blk : Blk W lb 33 #[.int .i64 x.k, .bool x.no, .slice x.al x.nl x.cl, .slice x.aw x.nw x.cw, .slice x.ar x.nr x.cr, .slice x.ac x.nc x.cc, .string (BA x.nm), .bool x.ev, .slice x.ai x.ni x.ci]
 cm : CmAt W (fun k => w1.heap.size ≤ k ∧ k < W.heap.size ∧ k ≠ lb) c x.l
 new : w1.heap.size ≤ lb
 old : 7 ≤ b
 lt : b < w1.heap.size
theorem Lf.fr {w1 W W' : World} {b lb : Nat} {mp : Value} {s s' : Pz} {c : Cm} {x : CV} (h : Lf w1 W b lb mp s c x) (hp : PzAt W' b mp s') (hf : Fr W W' b) : Lf w1 W' b lb mp s' c x :=
 ⟨h.leg.trans (leg_fr hf), hp, h.env.fr hf h.old, h.blk.grownS hf (fun e => by have := h.new; have := h.lt; omega), h.cm.kept (fun k hk => hf.block k hk.2.1 (fun e => by have := hk.1; have := h.lt; omega)) (fun k hk => ⟨hk.1, lle hk.2.1 hf.size, hk.2.2⟩), h.new, h.old, h.lt⟩
theorem Lf.below {w1 W W' : World} {b lb : Nat} {mp : Value} {s : Pz} {c : Cm} {x : CV} (h : Lf w1 W b lb mp s c x) (hb : Below W.heap.size W W') : Lf w1 W' b lb mp s c x := h.fr (h.pz.below hb) (fr_below hb)
theorem Lf.start {w1 W0 w2 : World} {b : Nat} {mp : Value} {s : Pz} {c : Cm} {x : CV} (h1 : Leg w1.heap.size b w1 w2) (hc : CmAt w2 (New W0 w2) c x.l) (hW0 : w1.heap.size ≤ W0.heap.size) (hp : PzAt w2 b mp s) (he : PEnv w2) (hb : 7 ≤ b) (hlt : b < w1.heap.size) : Lf w1 (w2.alloc (.cells #[.int .i64 x.k, .bool x.no, .slice x.al x.nl x.cl, .slice x.aw x.nw x.cw, .slice x.ar x.nr x.cr, .slice x.ac x.nc x.cc, .string (BA x.nm), .bool x.ev, .slice x.ai x.ni x.ci] 33)) b w2.heap.size mp s c x := by
 have hb2 : Below w2.heap.size w2 (w2.alloc (.cells #[.int .i64 x.k, .bool x.no, .slice x.al x.nl x.cl, .slice x.aw x.nw x.cw, .slice x.ar x.nr x.cr, .slice x.ac x.nc x.cc, .string (BA x.nm), .bool x.ev, .slice x.ai x.ni x.ci] 33)) := (Below.refl _ w2).alloc (ler _) _
 exact ⟨h1.trans (leg_below hb2), hp.below hb2, he.below hb2, Blk.new _ _ _, hc.kept (fun k hk => heap_alloc_old w2 _ hk.2) (fun k hk => ⟨lee hW0 hk.1, lle hk.2 hb2.size, by have := hk.2; omega⟩), h1.size, hb, hlt⟩
theorem Lf.blk8 {w1 w7 W8 : World} {b lb : Nat} {mp : Value} {s : Pz} {c : Cm} {x y : CV} (h : Lf w1 w7 b lb mp s c x) (hW8 : W8 = w7.alloc (.cells #[.int .i64 x.k, .bool x.no, .slice x.al x.nl x.cl, .slice x.aw x.nw x.cw, .slice x.ar x.nr x.cr, .slice x.ac x.nc x.cc, .string (BA x.nm), .bool x.ev, .slice x.ai x.ni x.ci, .int .i64 y.k, .bool y.no, .slice y.al y.nl y.cl, .slice y.aw y.nw y.cw, .slice y.ar y.nr y.cr, .slice y.ac y.nc y.cc, .string (BA y.nm), .bool y.ev, .slice y.ai y.ni y.ci] 33)) : Blk W8 lb 33 #[.int .i64 x.k, .bool x.no, .slice x.al x.nl x.cl, .slice x.aw x.nw x.cw, .slice x.ar x.nr x.cr, .slice x.ac x.nc x.cc, .string (BA x.nm), .bool x.ev, .slice x.ai x.ni x.ci] := by
 rw [hW8]
 exact h.blk.below ((Below.refl _ w7).alloc (ler _) _) h.blk.lt
theorem Lf.both {w1 w7 W8 : World} {b lb g8 : Nat} {mp : Value} {s : Pz} {c c2 : Cm} {x y : CV} (h : Lf w1 w7 b lb mp s c x) (hc2 : CmAt w7 (fun k => w1.heap.size ≤ k ∧ k < w7.heap.size ∧ k ≠ lb) c2 y.l) (hW8 : W8 = w7.alloc (.cells #[.int .i64 x.k, .bool x.no, .slice x.al x.nl x.cl, .slice x.aw x.nw x.cw, .slice x.ar x.nr x.cr, .slice x.ac x.nc x.cc, .string (BA x.nm), .bool x.ev, .slice x.ai x.ni x.ci, .int .i64 y.k, .bool y.no, .slice y.al y.nl y.cl, .slice y.aw y.nw y.cw, .slice y.ar y.nr y.cr, .slice y.ac y.nc y.cc, .string (BA y.nm), .bool y.ev, .slice y.ai y.ni y.ci] 33)) (hg8 : g8 = w7.heap.size) (kind : Int) : Lf w1 (L9 W8 lb (.int .i64 kind) (.bool false) (.slice none 0 0) (.slice none 0 0) (.slice none 0 0) (.slice (some ⟨g8, 0, none⟩) 2 2) (.string (BA [])) (.bool false) (.slice none 0 0)) b lb mp s (.mk kind false [] [] [] [c, c2] [] false []) ⟨kind, false, none, 0, 0, none, 0, 0, none, 0, 0, some ⟨g8, 0, none⟩, 2, 2, [], false, none, 0, 0⟩ := by
 have hb6 : Below w7.heap.size w7 W8 := by rw [hW8]; exact (Below.refl _ w7).alloc (ler _) _
 have hsz : W8.heap.size = w7.heap.size + 1 := by rw [hW8]; simp
 have r8 := h.below hb6
 have hr := two_row h.cm hc2 (fun k hk => hk.2.1)
 rw [← hW8, ← hg8] at hr
 have hlb := h.blk.lt
 have hnew := h.new
 have hlt := h.lt
 have hleg := h.leg.size
 have hcm : CmAt W8 (fun k => (w1.heap.size ≤ k ∧ k < g8 ∧ k ≠ lb) ∨ k = g8) (.mk kind false [] [] [] [c, c2] [] false []) (CV.l ⟨kind, false, none, 0, 0, none, 0, 0, none, 0, 0, some ⟨g8, 0, none⟩, 2, 2, [], false, none, 0, 0⟩) := CmAt.of (nilrow _ _ _) (nilrow _ _ _) (nilrow _ _ _) hr (nilrow _ _ _)
 have g := L9_grown W8 lb (.int .i64 kind) (.bool false) (.slice none 0 0) (.slice none 0 0) (.slice none 0 0) (.slice (some ⟨g8, 0, none⟩) 2 2) (.string (BA [])) (.bool false) (.slice none 0 0)
 refine ⟨(r8.leg).trans (leg_new g hnew), r8.pz.grownS g (fun k e => by omega), r8.env.grown g (fun k e => by have := h.old; omega), L9_blk r8.blk _ _ _ _ _ _ _ _ _, hcm.kept (fun k hk => ?_) (fun k hk => ?_), hnew, h.old, hlt⟩
 ·rcases hk with hk | hk
  ·exact g.block k (by omega) (by omega)
  ·exact g.block k (by omega) (by omega)
 ·have := g.size
  rcases hk with hk | hk
  ·exact ⟨hk.1, by omega, hk.2.2⟩
  ·exact ⟨by omega, by omega, by omega⟩
theorem andOrN_succ (lst : Pz → Cm × Pz) (n : Nat) (c : Cm) (s : Pz) : Pz.andOrN lst (n + 1) c s = if s.sees [kAnd, kOr] then Pz.andOrN lst n (.mk (if s.next.text = kAnd then 3 else 4) false [] [] [] [c, (Pz.pipeline lst s.take.gap).1] [] false []) (Pz.pipeline lst s.take.gap).2 else (c, s) := rfl
theorem andOr_end {lst : Pz → Cm × Pz} {n : Nat} {c : Cm} {s : Pz} (h : s.sees [kAnd, kOr] = false) : Pz.andOrN lst n c s = (c, s) := by
 cases n with
 | zero => rfl
 | succ m => rw [andOrN_succ, h]; rfl
theorem sees2_nil {s : Pz} (h : s.toks = []) : s.sees [kAnd, kOr] = false := by
 have hn : s.next.text = ⟨#[]⟩ := by unfold Pz.next; rw [h]; rfl
 unfold Pz.sees
 rw [hn]
 decide
theorem sees2_or {s : Pz} (h : s.sees [kAnd, kOr] = true) : s.next.text = kAnd ∨ s.next.text = kOr := by
 unfold Pz.sees at h
 simpa using h
theorem pandOr_any (w : World) (b : Nat) (mp : Value) (s : Pz) (H : PzAt w b mp s) (he : PEnv w) (hb : 7 ≤ b) (hm : MpAt w b mp) (lst : Pz → Cm × Pz) (N : Nat) (HC : RdAt 65 b mp (Pz.pipeline lst) N) (hle : ∀ s', (Pz.pipeline lst s').2.toks.length ≤ s'.toks.length) (hN : s.toks.length < N) : Reads 40 b mp (Pz.andOr lst) w s := by
 obtain ⟨W1, hW1⟩ : ∃ W1, W1 = w.alloc (.cells #[.int .i64 0, .bool false, .slice none 0 0, .slice none 0 0, .slice none 0 0, .slice none 0 0, .string ⟨#[]⟩, .bool false, .slice none 0 0] 33) := ⟨_, rfl⟩
 obtain ⟨nb, hnb⟩ : ∃ nb, nb = w.heap.size := ⟨_, rfl⟩
 have R1 : Hid (RS w W1 b nb mp 33 #[.int .i64 0, .bool false, .slice none 0 0, .slice none 0 0, .slice none 0 0, .slice none 0 0, .string ⟨#[]⟩, .bool false, .slice none 0 0] s) := hide (by rw [hW1, hnb]; exact rs_begin H he hb)
 have HM : Hid (∀ W, Fr w W b → MpAt W b mp) := hide (fun W h => hm.fr h)
 have HWB : Hid (w.heap.size ≤ W1.heap.size ∧ nb < W1.heap.size) := hide ⟨lee (uh R1).new (lel (uh R1).res.lt), (uh R1).res.lt⟩
 have HW1 := hide hW1
 have HNB := hide hnb
 obtain ⟨R, hR⟩ : ∃ R, R = Pz.andOr lst s := ⟨_, rfl⟩
 have HR : Hid (R = Pz.andOrN lst (Pz.pipeline lst s).2.toks.length (Pz.pipeline lst s).1 (Pz.pipeline lst s).2) := hide (by rw [hR]; rfl)
 have HCR := hide HC
 have HLE := hide hle
 have HCI := hide (HC W1 s (uh R1).pz (uh R1).env (uh HM W1 (uh R1).fr) hN)
 have hlt1 : b < W1.heap.size := (uh R1).pz.lt
 unfold Reads at HCI ⊢
 rw [← hR]
 clear hR hW1 hnb H he hm HC hle
 go_enter Tryz.func40, Tryz.ntmps40
 go_upto_region 1 with fail
 rw [← uh HW1, ← uh HNB]
 clear HW1 HNB
 go_wp2_with fail
 refine (uh HCI).mono ?_
 rintro e w2 ⟨x0, rfl, HG⟩
 have HL3 := hide (Lf.start (leg_fr (uh HG).fr) (uh HG).cm (ler _) (uh HG).pz ((uh R1).step (uh HG).pz (uh HG).fr).env hb hlt1)
 have hc2 : (Pz.pipeline lst s).2.toks.length ≤ s.toks.length := uh HLE s
 obtain ⟨c0, hc0⟩ : ∃ c0, c0 = (Pz.pipeline lst s).1 := ⟨_, rfl⟩
 obtain ⟨s0, hs0⟩ : ∃ s0, s0 = (Pz.pipeline lst s).2 := ⟨_, rfl⟩
 rw [← hc0, ← hs0] at HL3 HR
 rw [← hs0] at hc2
 obtain ⟨n0, hn0⟩ : ∃ n0, n0 = s0.toks.length := ⟨_, rfl⟩
 rw [← hn0] at HR
 obtain ⟨lb, hlb⟩ : ∃ lb, lb = w2.heap.size := ⟨_, rfl⟩
 obtain ⟨W3, hW3⟩ : ∃ W3, W3 = w2.alloc (.cells #[.int .i64 x0.k, .bool x0.no, .slice x0.al x0.nl x0.cl, .slice x0.aw x0.nw x0.cw, .slice x0.ar x0.nr x0.cr, .slice x0.ac x0.nc x0.cc, .string (BA x0.nm), .bool x0.ev, .slice x0.ai x0.ni x0.ci] 33) := ⟨_, rfl⟩
 rw [← hlb, ← hW3] at HL3
 have HLB3 := hide hlb
 have HW3 := hide hW3
 have hn0N : n0 < N := by omega
 have hs0n : s0.toks.length ≤ n0 := by omega
 clear HG HCI hc0 hs0 hc2 hn0 hlb hW3 hN
 go_upto_region 2 with fail
 rw [← uh HLB3, ← uh HW3]
 clear HLB3 HW3
 go_loopg [4] n0 (fun g v wr => ∃ (s' : Pz) (c : Cm) (x : CV), s'.toks.length ≤ g ∧ g ≤ n0 ∧ Hid (Pz.andOrN lst n0 c0 s0 = Pz.andOrN lst g c s' ∧ Lf W1 wr b lb mp s' c x))
 case atStart => exact ⟨s0, c0, x0, hs0n, ler _, hide ⟨rfl, uh HL3⟩⟩
 case round =>
  clear HL3
  obtain ⟨s', c, x, hg, hg2, HI⟩ := hrel
  have HSE : Hid (Calls Tryz.prog 41 #[.pointer (some ⟨b, 0, none⟩), .slice (some ⟨wr.heap.size, 0, none⟩) 2 2] (wr.alloc (.cells #[.string ⟨#[38, 38]⟩, .string ⟨#[124, 124]⟩] 9)) fun e w' => e = .returned (.bool (s'.sees [kAnd, kOr])) ∧ Below wr.heap.size wr w') := hide (psees_lit wr b mp s' [kAnd, kOr] (uh HI).2.pz (by decide))
  cases hs : s'.sees [kAnd, kOr] with
  | true =>
    rw [hs] at HSE
    cases gk with
    | zero =>
      rw [sees2_nil (List.eq_nil_of_length_eq_zero (by omega))] at hs
      cases hs
    | succ m =>
      have htk := take_less s'
      have hgp := gap_le s'.take
      have hcm : (Pz.pipeline lst s'.take.gap).2.toks.length ≤ s'.take.gap.toks.length := uh HLE _
      have hm2 : s'.take.gap.toks.length < N := by omega
      have hm3 : (Pz.pipeline lst s'.take.gap).2.toks.length ≤ m := by omega
      have hsd := sees2_or hs
      clear htk hgp hcm
      go_wp2_with fail
      refine (uh HSE).mono ?_
      rintro e w5 ⟨rfl, b5⟩
      have L5 := hide ((uh HI).2.below b5)
      clear b5 HSE
      by_cases hand : s'.next.text = kAnd
      ·have hand2 := hide hand
       clear hand
       have htx : s'.next.text = ⟨#[38, 38]⟩ := uh hand2
       have HE : Hid (Pz.andOrN lst n0 c0 s0 = Pz.andOrN lst m (.mk 3 false [] [] [] [c, (Pz.pipeline lst s'.take.gap).1] [] false []) (Pz.pipeline lst s'.take.gap).2) := hide (by
        rw [(uh HI).1, andOrN_succ lst m c s', hs, htx]
        rfl)
       have HTK : Hid (Calls Tryz.prog 55 #[.pointer (some ⟨b, 0, none⟩)] w5 fun e w' => e = .returned (.agg #[.int .i64 s'.next.kind, .string ⟨#[38, 38]⟩, .int .i64 s'.next.pos, .string s'.next.body, .bool s'.next.raw]) ∧ PzAt w' b mp s'.take ∧ Fr w5 w' b) := hide (by
        have h := ptake_any w5 b mp s' (uh L5).pz
        unfold Tok.cells at h
        rw [htx] at h
        exact h)
       have hfd : ∀ W, (Instr.field 74 (.agg #[.int .i64 s'.next.kind, .string ⟨#[38, 38]⟩, .int .i64 s'.next.pos, .string s'.next.body, .bool s'.next.raw]) 1).run Tryz.prog W = .ok (.string ⟨#[38, 38]⟩) W := fun W => by kernel_rfl
       clear hs htx HI hsd
       go_wp2_with fail
       refine (uh HTK).mono ?_
       rintro e w55 ⟨rfl, p55, f55⟩
       have L55 := hide ((uh L5).fr p55 f55)
       have HGP := hide (pgap_any w55 b mp s'.take p55)
       clear p55 f55 HTK L5
       go_wp2_with fail
       refine (uh HGP).mono ?_
       rintro e w6 ⟨rfl, p6, f6⟩
       have L6 := hide ((uh L55).fr p6 f6)
       clear p6 f6 HGP L55 hfd
       have HCT : Hid (∀ W, Below w6.heap.size w6 W → Calls Tryz.prog 65 #[.pointer (some ⟨b, 0, none⟩)] W fun e w' => ∃ y : CV, e = .returned (.agg #[.int .i64 y.k, .bool y.no, .slice y.al y.nl y.cl, .slice y.aw y.nw y.cw, .slice y.ar y.nr y.cr, .slice y.ac y.nc y.cc, .string (BA y.nm), .bool y.ev, .slice y.ai y.ni y.ci]) ∧ (w'.cell? ⟨lb, 0, none⟩ = some (.int .i64 x.k) ∧ w'.cell? ⟨lb, 1, none⟩ = some (.bool x.no) ∧ w'.cell? ⟨lb, 2, none⟩ = some (.slice x.al x.nl x.cl) ∧ w'.cell? ⟨lb, 3, none⟩ = some (.slice x.aw x.nw x.cw) ∧ w'.cell? ⟨lb, 4, none⟩ = some (.slice x.ar x.nr x.cr) ∧ w'.cell? ⟨lb, 5, none⟩ = some (.slice x.ac x.nc x.cc) ∧ w'.cell? ⟨lb, 6, none⟩ = some (.string (BA x.nm)) ∧ w'.cell? ⟨lb, 7, none⟩ = some (.bool x.ev) ∧ w'.cell? ⟨lb, 8, none⟩ = some (.slice x.ai x.ni x.ci)) ∧ Hid (Lf W1 w' b lb mp (Pz.pipeline lst s'.take.gap).2 c x ∧ CmAt w' (fun k => W1.heap.size ≤ k ∧ k < w'.heap.size ∧ k ≠ lb) (Pz.pipeline lst s'.take.gap).1 y.l)) := hide (fun W hB => by
        have r := (uh L6).below hB
        have h := uh HCR W s'.take.gap r.pz r.env (uh HM W ((uh R1).step r.pz r.leg.fr).fr) hm2
        unfold Reads at h
        refine h.mono ?_
        rintro e w' ⟨y, rfl, hgot⟩
        have hgot := uh hgot
        have r2 := r.fr hgot.pz hgot.fr
        refine ⟨y, rfl, ⟨r2.blk.cell 0 rfl, r2.blk.cell 1 rfl, r2.blk.cell 2 rfl, r2.blk.cell 3 rfl, r2.blk.cell 4 rfl, r2.blk.cell 5 rfl, r2.blk.cell 6 rfl, r2.blk.cell 7 rfl, r2.blk.cell 8 rfl⟩, hide ⟨r2, hgot.cm.kept (fun _ _ => rfl) (fun k hk => ⟨lee r.leg.size hk.1, hk.2, fun e => ?_⟩)⟩⟩
        have := r.blk.lt
        have := hk.1
        omega)
       have HLB := hide (uh L6).blk
       obtain ⟨c0, c1, c2, c3, c4, c5, c6, c7, c8⟩ := cel9 (uh HLB)
       clear HLB L6
       go_upto_region 7 with fail
       refine wp_region_held_drew (S := fun _ => True) (by kernel_rfl) trivial (fun hHeld => ?_)
       refine tk 0 (v := ?_) ?_ ?_
       rotate_left
       ·intro w hSw; (try dsimp only at hSw); go_simp; (try with_reducible rfl)
       go_frame
       refine tk 2 (v := ?_) ?_ ?_
       rotate_left
       ·intro w hSw; (try dsimp only at hSw); go_simp; (try with_reducible rfl)
       go_frame
       refine wpAnyH_ready (rs := [1, 3]) (by kernel_rfl) (by simp) ?_
       refine AllReadyH.cons rfl (fun KK hKK => ?_) (AllReadyH.cons rfl (fun KK hKK => ?_) AllReadyH.nil)
       focus
        go_simp
        refine hKK.out _ _ trivial (fun hHeld => ?_)
        clear hKK KK
        try go_frame
        refine rd1 3 (fun KK hKK => ?_)
        go_simp
        refine (uh HCT _ (by first | exact Below.refl _ _ | exact below_drew' _ _)).mono ?_
        rintro e w7 ⟨y, rfl, ⟨d0, d1, d2, d3, d4, d5, d6, d7, d8⟩, HG7⟩
        refine hKK.out _ _ trivial (fun hHeld => ?_)
        clear hKK KK
        try go_frame
        refine rd1 4 (fun KK hKK => ?_)
        go_simp
        obtain ⟨W8, hW8⟩ : ∃ W8, W8 = w7.alloc (.cells #[.int .i64 x.k, .bool x.no, .slice x.al x.nl x.cl, .slice x.aw x.nw x.cw, .slice x.ar x.nr x.cr, .slice x.ac x.nc x.cc, .string (BA x.nm), .bool x.ev, .slice x.ai x.ni x.ci, .int .i64 y.k, .bool y.no, .slice y.al y.nl y.cl, .slice y.aw y.nw y.cw, .slice y.ar y.nr y.cr, .slice y.ac y.nc y.cc, .string (BA y.nm), .bool y.ev, .slice y.ai y.ni y.ci] 33) := ⟨_, rfl⟩
        obtain ⟨g8, hg8⟩ : ∃ g8, g8 = w7.heap.size := ⟨_, rfl⟩
        rw [← hW8, ← hg8]
        have HFIN := hide ((uh HG7).1.both (uh HG7).2 hW8 hg8 3)
        have HK8 := hide ((uh HG7).1.blk8 hW8)
        obtain ⟨z0, z1, z2, z3, z4, z5, z6, z7, z8⟩ := cel9 (uh HK8)
        have zf : ∀ i, W8.frozen? ⟨lb, i, none⟩ = false := fun i => (uh HK8).frozen i
        clear hW8 hg8 HG7 HK8
        refine hKK.out _ _ trivial (fun hHeld => ?_)
        clear hKK KK
        try go_frame
        refine tk 5 (v := ?_) ?_ ?_
        rotate_left
        ·intro w hSw; (try dsimp only at hSw); go_simp; (try with_reducible rfl)
        go_frame
        refine rd1 6 (fun KK hKK => ?_)
        go_simp
        refine hKK.out _ _ trivial (fun hHeld => ?_)
        clear hKK KK
        try go_frame
        clear hHeld
        refine wpAnyH_done (by kernel_rfl) ?_ _
       rotate_left
       focus
        go_simp
        refine (uh HCT _ (by first | exact Below.refl _ _ | exact below_drew' _ _)).mono ?_
        rintro e w7 ⟨y, rfl, ⟨d0, d1, d2, d3, d4, d5, d6, d7, d8⟩, HG7⟩
        refine hKK.out _ _ trivial (fun hHeld => ?_)
        clear hKK KK
        try go_frame
        refine rd1 1 (fun KK hKK => ?_)
        go_simp
        refine hKK.out _ _ trivial (fun hHeld => ?_)
        clear hKK KK
        try go_frame
        refine rd1 4 (fun KK hKK => ?_)
        go_simp
        obtain ⟨W8, hW8⟩ : ∃ W8, W8 = w7.alloc (.cells #[.int .i64 x.k, .bool x.no, .slice x.al x.nl x.cl, .slice x.aw x.nw x.cw, .slice x.ar x.nr x.cr, .slice x.ac x.nc x.cc, .string (BA x.nm), .bool x.ev, .slice x.ai x.ni x.ci, .int .i64 y.k, .bool y.no, .slice y.al y.nl y.cl, .slice y.aw y.nw y.cw, .slice y.ar y.nr y.cr, .slice y.ac y.nc y.cc, .string (BA y.nm), .bool y.ev, .slice y.ai y.ni y.ci] 33) := ⟨_, rfl⟩
        obtain ⟨g8, hg8⟩ : ∃ g8, g8 = w7.heap.size := ⟨_, rfl⟩
        rw [← hW8, ← hg8]
        have HFIN := hide ((uh HG7).1.both (uh HG7).2 hW8 hg8 3)
        have HK8 := hide ((uh HG7).1.blk8 hW8)
        obtain ⟨z0, z1, z2, z3, z4, z5, z6, z7, z8⟩ := cel9 (uh HK8)
        have zf : ∀ i, W8.frozen? ⟨lb, i, none⟩ = false := fun i => (uh HK8).frozen i
        clear hW8 hg8 HG7 HK8
        refine hKK.out _ _ trivial (fun hHeld => ?_)
        clear hKK KK
        try go_frame
        refine tk 5 (v := ?_) ?_ ?_
        rotate_left
        ·intro w hSw; (try dsimp only at hSw); go_simp; (try with_reducible rfl)
        go_frame
        refine rd1 6 (fun KK hKK => ?_)
        go_simp
        refine hKK.out _ _ trivial (fun hHeld => ?_)
        clear hKK KK
        try go_frame
        clear hHeld
        refine wpAnyH_done (by kernel_rfl) ?_ _
       rotate_left
       all_goals
        clear c0 c1 c2 c3 c4 c5 c6 c7 c8 HCT
        go_wp2_with fail
        go_roundg m
        case measure => omega
        case rel => exact ⟨_, _, _, hm3, by omega, hide ⟨uh HE, uh HFIN⟩⟩
      ·have hor : s'.next.text = kOr := hsd.elim (fun e => absurd e hand) id
       have hor2 := hide hor
       clear hand hor
       have htx : s'.next.text = ⟨#[124, 124]⟩ := uh hor2
       have HE : Hid (Pz.andOrN lst n0 c0 s0 = Pz.andOrN lst m (.mk 4 false [] [] [] [c, (Pz.pipeline lst s'.take.gap).1] [] false []) (Pz.pipeline lst s'.take.gap).2) := hide (by
        rw [(uh HI).1, andOrN_succ lst m c s', hs, htx]
        rfl)
       have HTK : Hid (Calls Tryz.prog 55 #[.pointer (some ⟨b, 0, none⟩)] w5 fun e w' => e = .returned (.agg #[.int .i64 s'.next.kind, .string ⟨#[124, 124]⟩, .int .i64 s'.next.pos, .string s'.next.body, .bool s'.next.raw]) ∧ PzAt w' b mp s'.take ∧ Fr w5 w' b) := hide (by
        have h := ptake_any w5 b mp s' (uh L5).pz
        unfold Tok.cells at h
        rw [htx] at h
        exact h)
       have hfd : ∀ W, (Instr.field 74 (.agg #[.int .i64 s'.next.kind, .string ⟨#[124, 124]⟩, .int .i64 s'.next.pos, .string s'.next.body, .bool s'.next.raw]) 1).run Tryz.prog W = .ok (.string ⟨#[124, 124]⟩) W := fun W => by kernel_rfl
       clear hs htx HI hsd
       go_wp2_with fail
       refine (uh HTK).mono ?_
       rintro e w55 ⟨rfl, p55, f55⟩
       have L55 := hide ((uh L5).fr p55 f55)
       have HGP := hide (pgap_any w55 b mp s'.take p55)
       clear p55 f55 HTK L5
       go_wp2_with fail
       refine (uh HGP).mono ?_
       rintro e w6 ⟨rfl, p6, f6⟩
       have L6 := hide ((uh L55).fr p6 f6)
       clear p6 f6 HGP L55 hfd
       have HCT : Hid (∀ W, Below w6.heap.size w6 W → Calls Tryz.prog 65 #[.pointer (some ⟨b, 0, none⟩)] W fun e w' => ∃ y : CV, e = .returned (.agg #[.int .i64 y.k, .bool y.no, .slice y.al y.nl y.cl, .slice y.aw y.nw y.cw, .slice y.ar y.nr y.cr, .slice y.ac y.nc y.cc, .string (BA y.nm), .bool y.ev, .slice y.ai y.ni y.ci]) ∧ (w'.cell? ⟨lb, 0, none⟩ = some (.int .i64 x.k) ∧ w'.cell? ⟨lb, 1, none⟩ = some (.bool x.no) ∧ w'.cell? ⟨lb, 2, none⟩ = some (.slice x.al x.nl x.cl) ∧ w'.cell? ⟨lb, 3, none⟩ = some (.slice x.aw x.nw x.cw) ∧ w'.cell? ⟨lb, 4, none⟩ = some (.slice x.ar x.nr x.cr) ∧ w'.cell? ⟨lb, 5, none⟩ = some (.slice x.ac x.nc x.cc) ∧ w'.cell? ⟨lb, 6, none⟩ = some (.string (BA x.nm)) ∧ w'.cell? ⟨lb, 7, none⟩ = some (.bool x.ev) ∧ w'.cell? ⟨lb, 8, none⟩ = some (.slice x.ai x.ni x.ci)) ∧ Hid (Lf W1 w' b lb mp (Pz.pipeline lst s'.take.gap).2 c x ∧ CmAt w' (fun k => W1.heap.size ≤ k ∧ k < w'.heap.size ∧ k ≠ lb) (Pz.pipeline lst s'.take.gap).1 y.l)) := hide (fun W hB => by
        have r := (uh L6).below hB
        have h := uh HCR W s'.take.gap r.pz r.env (uh HM W ((uh R1).step r.pz r.leg.fr).fr) hm2
        unfold Reads at h
        refine h.mono ?_
        rintro e w' ⟨y, rfl, hgot⟩
        have hgot := uh hgot
        have r2 := r.fr hgot.pz hgot.fr
        refine ⟨y, rfl, ⟨r2.blk.cell 0 rfl, r2.blk.cell 1 rfl, r2.blk.cell 2 rfl, r2.blk.cell 3 rfl, r2.blk.cell 4 rfl, r2.blk.cell 5 rfl, r2.blk.cell 6 rfl, r2.blk.cell 7 rfl, r2.blk.cell 8 rfl⟩, hide ⟨r2, hgot.cm.kept (fun _ _ => rfl) (fun k hk => ⟨lee r.leg.size hk.1, hk.2, fun e => ?_⟩)⟩⟩
        have := r.blk.lt
        have := hk.1
        omega)
       have HLB := hide (uh L6).blk
       obtain ⟨c0, c1, c2, c3, c4, c5, c6, c7, c8⟩ := cel9 (uh HLB)
       clear HLB L6
       go_upto_region 7 with fail
       refine wp_region_held_drew (S := fun _ => True) (by kernel_rfl) trivial (fun hHeld => ?_)
       refine tk 0 (v := ?_) ?_ ?_
       rotate_left
       ·intro w hSw; (try dsimp only at hSw); go_simp; (try with_reducible rfl)
       go_frame
       refine tk 2 (v := ?_) ?_ ?_
       rotate_left
       ·intro w hSw; (try dsimp only at hSw); go_simp; (try with_reducible rfl)
       go_frame
       refine wpAnyH_ready (rs := [1, 3]) (by kernel_rfl) (by simp) ?_
       refine AllReadyH.cons rfl (fun KK hKK => ?_) (AllReadyH.cons rfl (fun KK hKK => ?_) AllReadyH.nil)
       focus
        go_simp
        refine hKK.out _ _ trivial (fun hHeld => ?_)
        clear hKK KK
        try go_frame
        refine rd1 3 (fun KK hKK => ?_)
        go_simp
        refine (uh HCT _ (by first | exact Below.refl _ _ | exact below_drew' _ _)).mono ?_
        rintro e w7 ⟨y, rfl, ⟨d0, d1, d2, d3, d4, d5, d6, d7, d8⟩, HG7⟩
        refine hKK.out _ _ trivial (fun hHeld => ?_)
        clear hKK KK
        try go_frame
        refine rd1 4 (fun KK hKK => ?_)
        go_simp
        obtain ⟨W8, hW8⟩ : ∃ W8, W8 = w7.alloc (.cells #[.int .i64 x.k, .bool x.no, .slice x.al x.nl x.cl, .slice x.aw x.nw x.cw, .slice x.ar x.nr x.cr, .slice x.ac x.nc x.cc, .string (BA x.nm), .bool x.ev, .slice x.ai x.ni x.ci, .int .i64 y.k, .bool y.no, .slice y.al y.nl y.cl, .slice y.aw y.nw y.cw, .slice y.ar y.nr y.cr, .slice y.ac y.nc y.cc, .string (BA y.nm), .bool y.ev, .slice y.ai y.ni y.ci] 33) := ⟨_, rfl⟩
        obtain ⟨g8, hg8⟩ : ∃ g8, g8 = w7.heap.size := ⟨_, rfl⟩
        rw [← hW8, ← hg8]
        have HFIN := hide ((uh HG7).1.both (uh HG7).2 hW8 hg8 4)
        have HK8 := hide ((uh HG7).1.blk8 hW8)
        obtain ⟨z0, z1, z2, z3, z4, z5, z6, z7, z8⟩ := cel9 (uh HK8)
        have zf : ∀ i, W8.frozen? ⟨lb, i, none⟩ = false := fun i => (uh HK8).frozen i
        clear hW8 hg8 HG7 HK8
        refine hKK.out _ _ trivial (fun hHeld => ?_)
        clear hKK KK
        try go_frame
        refine tk 5 (v := ?_) ?_ ?_
        rotate_left
        ·intro w hSw; (try dsimp only at hSw); go_simp; (try with_reducible rfl)
        go_frame
        refine rd1 6 (fun KK hKK => ?_)
        go_simp
        refine hKK.out _ _ trivial (fun hHeld => ?_)
        clear hKK KK
        try go_frame
        clear hHeld
        refine wpAnyH_done (by kernel_rfl) ?_ _
       rotate_left
       focus
        go_simp
        refine (uh HCT _ (by first | exact Below.refl _ _ | exact below_drew' _ _)).mono ?_
        rintro e w7 ⟨y, rfl, ⟨d0, d1, d2, d3, d4, d5, d6, d7, d8⟩, HG7⟩
        refine hKK.out _ _ trivial (fun hHeld => ?_)
        clear hKK KK
        try go_frame
        refine rd1 1 (fun KK hKK => ?_)
        go_simp
        refine hKK.out _ _ trivial (fun hHeld => ?_)
        clear hKK KK
        try go_frame
        refine rd1 4 (fun KK hKK => ?_)
        go_simp
        obtain ⟨W8, hW8⟩ : ∃ W8, W8 = w7.alloc (.cells #[.int .i64 x.k, .bool x.no, .slice x.al x.nl x.cl, .slice x.aw x.nw x.cw, .slice x.ar x.nr x.cr, .slice x.ac x.nc x.cc, .string (BA x.nm), .bool x.ev, .slice x.ai x.ni x.ci, .int .i64 y.k, .bool y.no, .slice y.al y.nl y.cl, .slice y.aw y.nw y.cw, .slice y.ar y.nr y.cr, .slice y.ac y.nc y.cc, .string (BA y.nm), .bool y.ev, .slice y.ai y.ni y.ci] 33) := ⟨_, rfl⟩
        obtain ⟨g8, hg8⟩ : ∃ g8, g8 = w7.heap.size := ⟨_, rfl⟩
        rw [← hW8, ← hg8]
        have HFIN := hide ((uh HG7).1.both (uh HG7).2 hW8 hg8 4)
        have HK8 := hide ((uh HG7).1.blk8 hW8)
        obtain ⟨z0, z1, z2, z3, z4, z5, z6, z7, z8⟩ := cel9 (uh HK8)
        have zf : ∀ i, W8.frozen? ⟨lb, i, none⟩ = false := fun i => (uh HK8).frozen i
        clear hW8 hg8 HG7 HK8
        refine hKK.out _ _ trivial (fun hHeld => ?_)
        clear hKK KK
        try go_frame
        refine tk 5 (v := ?_) ?_ ?_
        rotate_left
        ·intro w hSw; (try dsimp only at hSw); go_simp; (try with_reducible rfl)
        go_frame
        refine rd1 6 (fun KK hKK => ?_)
        go_simp
        refine hKK.out _ _ trivial (fun hHeld => ?_)
        clear hKK KK
        try go_frame
        clear hHeld
        refine wpAnyH_done (by kernel_rfl) ?_ _
       rotate_left
       all_goals
        clear c0 c1 c2 c3 c4 c5 c6 c7 c8 HCT
        go_wp2_with fail
        go_roundg m
        case measure => omega
        case rel => exact ⟨_, _, _, hm3, by omega, hide ⟨uh HE, uh HFIN⟩⟩
  | false =>
    rw [hs] at HSE
    have HE : Hid (R = (c, s')) := hide (by rw [uh HR, (uh HI).1, andOr_end hs])
    clear hs HCR HLE HR
    go_wp2_with fail
    refine (uh HSE).mono ?_
    rintro e w5 ⟨rfl, b5⟩
    have L5 := hide ((uh HI).2.below b5)
    have R5 := hide ((uh R1).step (uh L5).pz (uh L5).leg.fr)
    have HFIN := hide ((uh R5).fin (uh L5).cm (fun k hk => ⟨lee (uh HWB).1 hk.1, hk.2.1, by have := (uh HWB).2; omega⟩))
    have HLB := hide (uh L5).blk
    have HZB := hide (uh R5).res
    obtain ⟨c0, c1, c2, c3, c4, c5, c6, c7, c8⟩ := cel9 (uh HLB)
    obtain ⟨z0, z1, z2, z3, z4, z5, z6, z7, z8⟩ := cel9 (uh HZB)
    have zf : ∀ i, w5.frozen? ⟨nb, i, none⟩ = false := fun i => (uh HZB).frozen i
    clear b5 HSE HLB HZB L5 R5 HI
    go_wp2
    refine bodyPost_ret (results_cell_row (P := Tryz.prog) rfl _ _ nb 33 _ (0, 0) _ rfl (uh HFIN).1 Tryz.underlying33 rfl (by kernel_rfl)) rfl ⟨x, rfl, hide (by rw [uh HE]; exact (uh HFIN).2)⟩
end Go.Proofs.YtojjfdobilkknaaGreatDoor
namespace Go.Proofs.YtojjfdobilkknaaGreatDoor
open Go.RowKit Go.Maps
structure Ho {α : Type} (K : Kd α) (t : TypeId) (cs : Value → Array Value) (w1 Wb : World) (base : Nat) (W : World) (b ib : Nat) (mp : Value) (s : Pz) (v : Value) (l : List α) : Prop where
 leg : Leg w1.heap.size b w1 W
 cb : Blk W ib t (cs v)
 pz : PzAt W b mp s
 env : PEnv W
 row : GrowsG K (fun g => v.ownBlock = some g ∨ g = ib) W base v l
 old : 7 ≤ b
 lt : b < w1.heap.size
 new : w1.heap.size ≤ ib
 ne : v.ownBlock ≠ some ib
 bb : w1.heap.size ≤ base
 fit : base ≤ W.heap.size
 kp : ∀ k, k < base → k ≠ b → k ≠ ib → W.heap[k]? = Wb.heap[k]?
variable {α : Type} {K : Kd α} {t : TypeId} {cs : Value → Array Value} {w1 Wb W : World} {base b ib : Nat} {mp : Value} {s : Pz} {v : Value} {l : List α}
theorem Ho.step (h : Ho K t cs w1 Wb base W b ib mp s v l) {W' : World} {s' : Pz} (hp : PzAt W' b mp s') (hf : Fr W W' b) : Ho K t cs w1 Wb base W' b ib mp s' v l := by
 have h1 := h.lt
 have h2 := h.new
 have h3 := h.bb
 have h4 := h.fit
 exact ⟨h.leg.trans (leg_fr hf), h.cb.grownS hf (fun e => by omega), hp, h.env.fr hf h.old, h.row.fr hf (by omega), h.old, h.lt, h.new, h.ne, h.bb, lee h.fit hf.size, fun k hk hb hi => (hf.block k (by omega) hb).trans (h.kp k hk hb hi)⟩
theorem Ho.below (h : Ho K t cs w1 Wb base W b ib mp s v l) {W' : World} (hb : Below W.heap.size W W') : Ho K t cs w1 Wb base W' b ib mp s v l := h.step (h.pz.below hb) (fr_below hb)
theorem Ho.begin {W3 : World} (h : Lp K w1 W3 b mp s v l) (hb : b < w1.heap.size) (hn : v.ownBlock ≠ some W3.heap.size) : Ho K t cs w1 (W3.alloc (.cells (cs v) t)) w1.heap.size (W3.alloc (.cells (cs v) t)) b W3.heap.size mp s v l := by
 have hbl : Below W3.heap.size W3 (W3.alloc (.cells (cs v) t)) := (Below.refl _ W3).alloc (ler _) _
 have hr := h.row.fr (fr_below hbl) h.lt
 refine ⟨h.leg.trans (leg_below hbl), Blk.new _ _ _, h.pz.below hbl, h.env.below hbl, ?_, h.old, hb, h.leg.size, hn, ler _, lee h.leg.size hbl.size, fun k _ _ _ => rfl⟩
 obtain ⟨css, o1, o2, o3⟩ := h.row
 obtain ⟨css', p1, _, _⟩ := hr
 refine ⟨css, own_grownS o1 (fr_below hbl (b := b)) (fun k hk e => by have := (o1.lt k hk).1; omega), o2, fun i x c hi hc => ?_⟩
 obtain ⟨lo, hi', a1, a2, a3, a4⟩ := o3 i x c hi hc
 refine ⟨lo, hi', a1, lee a2 hbl.size, fun g hg => ?_, K.kept a4 (fun k hk => heap_alloc_old W3 _ (by omega)) (fun _ hk => hk)⟩
 rcases hg with e | e
 ·exact a3 g e
 ·exact .inr (by omega)
theorem Ho.empty (h1 : Leg w1.heap.size b w1 W) (hc : Blk W ib t (cs (.slice none 0 0))) (hp : PzAt W b mp s) (he : PEnv W) (hb : 7 ≤ b) (hlt : b < w1.heap.size) (hn : w1.heap.size ≤ ib) : Ho K t cs w1 W W.heap.size W b ib mp s (.slice none 0 0) [] :=
 ⟨h1, hc, hp, he, growsG_nil _ _ _ _, hb, hlt, hn, by simp [Value.ownBlock], h1.size, ler _, fun k _ _ _ => rfl⟩
theorem Ho.add (h : Ho K t cs w1 Wb base W b ib mp s v l) {W1 : World} {s1 : Pz} (hp : PzAt W1 b mp s1) (hf : Fr W W1 b) {x : α} {ec : List Value} (hx : K.rel W1 (New W W1) x ec) (ts : TypeId) {z : Value} {bytes : Nat} (ht : Tryz.prog.underlying ts = some (.slice K.t)) (hi : (Tryz.prog.info? K.t).map (fun i => (i.zero, i.size, i.bytes)) = some (some z, K.sz, bytes)) (hzs : z.cells.size = K.sz) (hsz : 0 < K.sz) (hbs : bytes ≤ 1000) (hl : l.length ≤ 100000) :
 ∃ ad n cap w3, (∀ ty, (Builtin.append_ #[ts, ts] ty #[v, .slice (some ⟨W1.heap.size, 0, none⟩) 1 1]).run Tryz.prog (W1.alloc (.cells ec.toArray K.t)) = .ok (.slice ad n cap) w3) ∧ Blk w3 ib t (cs v) ∧ (∀ f, (cs v).setIfInBounds f (.slice ad n cap) = cs (.slice ad n cap) → Ho K t cs w1 Wb base (w3.setCell ⟨ib, f, none⟩ (.slice ad n cap)) b ib mp s1 (.slice ad n cap) (l ++ [x])) := by
 have h1 := h.step hp hf
 have q1 := h.lt
 have q2 := h.new
 have q3 := h.bb
 have q4 := h.fit
 have q5 := h.cb.lt
 have q6 := hf.size
 obtain ⟨i, hi1, hi2, hi3, hi4⟩ := pinfo hi
 obtain ⟨v', w3, hr, ha, hg, hk, hvb, ad, n, cap, hv⟩ := h1.row.add (lo := W.heap.size) h.fit hf.size (fun g hg => by
  rcases hg with e | e
  ·obtain ⟨css, o1, _⟩ := h.row
   exact (o1.lt g e).2
  ·omega) (fun g e => .inl e) hx ts i z bytes ht hi1 hi2 hi3 hi4 hzs hsz hbs hl
 subst hv
 have hib : w3.heap[ib]? = W1.heap[ib]? := hk ib (by omega) h.ne
 have hcb : Blk w3 ib t (cs v) := hib.trans h1.cb
 have hne : (Value.slice ad n cap).ownBlock ≠ some ib := fun e => by
  rcases hvb ib e with e2 | e2
  ·exact h.ne e2
  ·omega
 have hgr := ha (fun g => (Value.slice ad n cap).ownBlock = some g ∨ g = ib) (fun g hg => hg.elim .inr (fun e => .inl (.inr e)))
 have hs3 := hg.size
 refine ⟨ad, n, cap, w3, hr, hcb, fun f hcs => ?_⟩
 have f3 := fr_set w3 ib f (.slice ad n cap)
 have hlow : ∀ k, k < base → k ≠ ib → (w3.setCell ⟨ib, f, none⟩ (.slice ad n cap)).heap[k]? = W1.heap[k]? := fun k hk1 hk2 => (f3.block k (by omega) hk2).trans (hk k (by omega) (fun e => by
  obtain ⟨css, o1, _⟩ := h1.row
  have := (o1.lt k e).1
  omega))
 refine ⟨(h1.leg.trans (hg.mono (fun k _ e => .inr (by omega)))).trans (leg_new f3 h.new), hcs ▸ hcb.set f _, (h1.pz.grownS hg (fun k e => by omega)).grownS f3 (fun k e => by omega), (h1.env.grown hg (fun k e => by have := h.old; omega)).grown f3 (fun k e => by have := h.old; omega), hgr.other (r := some ib) (fun k hk1 hk2 => f3.block k hk1 (fun e => hk2 (by rw [e]))) (fun g e => by injection e with e; exact .inr e.symm) (fun g e1 e2 => by injection e2 with e2; subst e2; exact hne e1) f3.size (fun g hg2 => .inl hg2), h.old, h.lt, h.new, hne, h.bb, lee h1.fit (lee hs3 f3.size), fun k hk1 hk2 hk3 => (hlow k hk1 hk3).trans (h1.kp k hk1 hk2 hk3)⟩
theorem Ho.done (h : Ho K t cs w1 Wb base W b ib mp s v l) : RowAt K W (fun k => base ≤ k ∧ k < W.heap.size ∧ k ≠ ib) v l := by
 obtain ⟨css, o, h2, h3⟩ := h.row
 have hall : ∀ c ∈ css, c.length = K.sz := fun c hc => by
  obtain ⟨i, hi⟩ := List.getElem?_of_mem hc
  have hil := (List.getElem?_eq_some_iff.1 hi).1
  obtain ⟨_, _, _, _, _, a4⟩ := h3 i _ c (List.getElem?_eq_getElem (by omega)) hi
  exact K.len a4
 obtain ⟨o0, ⟨e1, e2⟩ | ⟨g, cap, cur, e1, hbg, hg, hnc, _, hcs, htk⟩⟩ := o
 ·exact ⟨none, 0, by rw [e1, e2], .inl (List.eq_nil_of_length_eq_zero e2)⟩
 ·refine ⟨_, cap, e1, .inr ⟨g, cur, rfl, ⟨hbg, (Array.getElem?_eq_some_iff.1 hg).1, fun e => h.ne (by rw [e1]; simp [Value.ownBlock, e])⟩, hg, fun i x hx => ?_⟩⟩
  have hil := (List.getElem?_eq_some_iff.1 hx).1
  obtain ⟨c, hc⟩ : ∃ c, css[i]? = some c := ⟨_, List.getElem?_eq_getElem (by omega)⟩
  obtain ⟨lo, hi, a1, a2, a3, a4⟩ := h3 i x c hx hc
  refine ⟨c, K.kept a4 (fun _ _ => rfl) (fun k hk => ⟨by omega, by omega, fun e => by have := a3 ib (.inr rfl); omega⟩), fun j u hu => ?_⟩
  have hju := (List.getElem?_eq_some_iff.1 hu).1
  have h7 := flat_get hall hc hu
  rw [← htk, List.getElem?_take] at h7
  split at h7
  ·simpa using h7
  ·cases h7
end Go.Proofs.YtojjfdobilkknaaGreatDoor
namespace Go.Proofs.YtojjfdobilkknaaGreatDoor
open Go.RowKit Go.Maps
theorem alts_nil {n : Nat} {s : Pz} (h : s.sees [kBar] = false) : Pz.altsN n s = ([], s) := by
 cases n with
 | zero => rfl
 | succ m => rw [Pz.altsN, h]; rfl
theorem altsN_succ (n : Nat) (s : Pz) : Pz.altsN (n + 1) s = if s.sees [kBar] then (s.take.word.1 :: (Pz.altsN n s.take.word.2).1, (Pz.altsN n s.take.word.2).2) else ([], s) := rfl
theorem altsN_le : ∀ (n : Nat) (s : Pz), (Pz.altsN n s).2.toks.length ≤ s.toks.length
 | 0, s => ler _
 | n + 1, s => by
   rw [altsN_succ]
   split
   ·have h1 := altsN_le n s.take.word.2
    have h2 := wordS_less s.take
    have h3 := take_less s
    show (Pz.altsN n s.take.word.2).2.toks.length ≤ _
    omega
   ·exact ler _
theorem word_lt (s : Pz) : s.word.2.toks.length ≤ s.toks.length - 1 := by
 rcases Nat.eq_zero_or_pos s.toks.length with h | h
 ·have := wordS_less s; omega
 ·exact word_less (n := s.toks.length - 1) (by omega)
def itS (s : Pz) : Pz := ((Pz.altsN (s.skips kLp).word.2.toks.length (s.skips kLp).word.2).2.want kRp).gap
theorem itS_le (s : Pz) : (itS s).toks.length ≤ s.toks.length - 1 := by
 have h1 := skips_le s kLp
 have h2 := word_lt (s.skips kLp)
 have h3 := altsN_le (s.skips kLp).word.2.toks.length (s.skips kLp).word.2
 have h4 := want_le (Pz.altsN (s.skips kLp).word.2.toks.length (s.skips kLp).word.2).2 kRp
 have h5 := gap_le ((Pz.altsN (s.skips kLp).word.2.toks.length (s.skips kLp).word.2).2.want kRp)
 unfold itS
 omega
def itC (v : Value) : Array Value := #[v, .slice none 0 0]
theorem pitem_any (w : World) (b : Nat) (mp : Value) (s : Pz) (H : PzAt w b mp s) (he : PEnv w) (hb : 7 ≤ b) (hm : MpAt w b mp) (lst : Pz → Cm × Pz) (N : Nat) (HL : LstAt b mp lst N) (hN : (itS s).toks.length < N) : Calls Tryz.prog 64 #[.pointer (some ⟨b, 0, none⟩)] w fun e w' => ∃ aw nw cw ab nbb cb, e = .returned (.agg #[.slice aw nw cw, .slice ab nbb cb]) ∧ Hid (Ki.rel w' (New w w') (s.item lst).1 [.slice aw nw cw, .slice ab nbb cb] ∧ PzAt w' b mp (s.item lst).2 ∧ Fr w w' b) := by
 have hfew := H.ok.few
 obtain ⟨W1, hW1⟩ : ∃ W1, W1 = w.alloc (.cells #[.slice none 0 0, .slice none 0 0] 59) := ⟨_, rfl⟩
 obtain ⟨nb, hnb⟩ : ∃ nb, nb = w.heap.size := ⟨_, rfl⟩
 have R1 : Hid (RS w W1 b nb mp 59 #[.slice none 0 0, .slice none 0 0] s) := hide (by
  have hb1 : Below w.heap.size w (w.alloc (.cells #[.slice none 0 0, .slice none 0 0] 59)) := (Below.refl _ w).alloc (ler _) _
  rw [hW1, hnb]
  exact ⟨fr_below hb1, Blk.new _ _ _, H.below hb1, he.below hb1, ler _, H.lt, hb⟩)
 have HM : Hid (∀ W, Fr w W b → MpAt W b mp) := hide (fun W h => hm.fr h)
 have HWB : Hid (w.heap.size ≤ W1.heap.size ∧ nb < W1.heap.size ∧ w.heap.size ≤ nb ∧ b < nb) := hide ⟨lee (uh R1).new (lel (uh R1).res.lt), (uh R1).res.lt, (uh R1).new, (uh R1).lt⟩
 have hlt1 : b < W1.heap.size := (uh R1).pz.lt
 have HW1 := hide hW1
 have HNB := hide hnb
 have HSK := hide (pskip_any W1 b mp s kLp (uh R1).pz)
 obtain ⟨R, hR⟩ : ∃ R, R = s.item lst := ⟨_, rfl⟩
 obtain ⟨s1, hs1⟩ : ∃ s1, s1 = s.skips kLp := ⟨_, rfl⟩
 have hN2 := hN
 unfold itS at hN2
 rw [← hs1] at hN2
 have HR : Hid (R = if ((Pz.altsN s1.word.2.toks.length s1.word.2).2.want kRp).gap.sees [kDsemi, kEsac] then ((s1.word.1 :: (Pz.altsN s1.word.2.toks.length s1.word.2).1, []), ((Pz.altsN s1.word.2.toks.length s1.word.2).2.want kRp).gap) else ((s1.word.1 :: (Pz.altsN s1.word.2.toks.length s1.word.2).1, [(lst ((Pz.altsN s1.word.2.toks.length s1.word.2).2.want kRp).gap).1]), (lst ((Pz.altsN s1.word.2.toks.length s1.word.2).2.want kRp).gap).2)) := hide (by rw [hR, hs1]; rfl)
 rw [← hR]
 rw [← hs1] at HSK
 have hw1 := wordS_less s1
 have hs1l : s1.toks.length ≤ s.toks.length := by rw [hs1]; exact skips_le _ _
 obtain ⟨s2, hs2⟩ : ∃ s2, s2 = s1.word.2 := ⟨_, rfl⟩
 obtain ⟨x1, hx1⟩ : ∃ x1, x1 = s1.word.1 := ⟨_, rfl⟩
 rw [← hs2, ← hx1] at HR
 rw [← hs2] at hN2 hw1
 have hs2F : s2.toks.length ≤ 100000 := by omega
 have HN2 := hide hN2
 have HLL := hide HL
 have HSN : Hid (∀ W s', PzAt W b mp s' → Calls Tryz.prog 41 #[.pointer (some ⟨b, 0, none⟩), .slice (some ⟨W.heap.size, 0, none⟩) 2 2] (W.alloc (.cells #[.string ⟨#[59, 59]⟩, .string ⟨#[101, 115, 97, 99]⟩] 9)) fun e w' => e = .returned (.bool (s'.sees [kDsemi, kEsac])) ∧ Below W.heap.size W w') := hide (fun W s' h => psees_lit W b mp s' [kDsemi, kEsac] h (by decide))
 have HX2 : Hid (s2 = s1.word.2 ∧ x1 = s1.word.1) := hide ⟨hs2, hx1⟩
 clear hR hs1 hs2 hx1 hW1 hnb H he hm HL hN hN2 hfew hw1 hs1l
 go_enter Tryz.func64, Tryz.ntmps64
 go_upto_region 1 with fail
 rw [← uh HW1, ← uh HNB]
 clear HW1 HNB
 go_wp2_with fail
 refine (uh HSK).mono ?_
 rintro e w2 ⟨rfl, p2, f2⟩
 have R2 := hide ((uh R1).step p2 f2)
 have L2 : Hid (Lp Kw W1 w2 b mp s1 (.slice none 0 0) []) := hide ⟨leg_fr f2, p2, (uh R2).env, grows_nil Kw w2 _, hb, hlt1⟩
 have HWD := hide (pword_any w2 b mp s1 p2 (uh R2).env.we hb)
 clear p2 f2 HSK R2
 go_wp2_with fail
 refine (uh HWD).mono ?_
 rintro e w3 ⟨v3, rfl, hw3, p3, f3⟩
 rw [← (uh HX2).1] at p3
 rw [← (uh HX2).2] at hw3
 obtain ⟨adv, cv, hv, _⟩ := hw3.len
 subst hv
 obtain ⟨g4, hg4⟩ : ∃ g4, g4 = w3.heap.size := ⟨_, rfl⟩
 obtain ⟨W4, hW4⟩ : ∃ W4, W4 = w3.alloc (.cells #[.slice adv x1.length cv] 36) := ⟨_, rfl⟩
 obtain ⟨ib, hib⟩ : ∃ ib, ib = W4.heap.size := ⟨_, rfl⟩
 obtain ⟨W5, hW5⟩ : ∃ W5, W5 = W4.alloc (.cells #[.slice (some ⟨g4, 0, none⟩) 1 1, .slice none 0 0] 59) := ⟨_, rfl⟩
 have L4 : Lp Kw W1 W4 b mp s2 (.slice (some ⟨g4, 0, none⟩) 1 1) [x1] := by
  rw [hW4, hg4]
  exact (uh L2).one p3 f3 (x := x1) (cs := [.slice adv x1.length cv]) ⟨_, rfl, hw3⟩
 have hgi : g4 + 1 = ib := by rw [hib, hW4, hg4]; simp
 have H5 : Hid (Ho Kw 59 itC W1 W5 W1.heap.size W5 b ib mp s2 (.slice (some ⟨g4, 0, none⟩) 1 1) [x1]) := hide (by
  rw [hW5, hib]
  exact Ho.begin (cs := itC) L4 hlt1 (by simp [Value.ownBlock]; omega))
 have HW4 := hide hW4
 have HW5 := hide hW5
 have HG4 := hide hg4
 have HIB := hide hib
 have HGI := hide hgi
 clear hW4 hW5 hg4 hib L4 hgi p3 f3 hw3 HWD L2 HX2
 obtain ⟨n0, hn0⟩ : ∃ n0, n0 = s2.toks.length := ⟨_, rfl⟩
 rw [← hn0] at HR HN2 hs2F
 have hs2n : s2.toks.length ≤ n0 := by omega
 clear hn0
 go_upto_region 3 with fail
 rw [← uh HG4, ← uh HW4]
 try rw [← uh HIB]
 try rw [uh HGI]
 rw [← uh HW5]
 clear HG4 HW4 HIB HW5 HGI
 go_loopg [10] n0 (fun g v wr => ∃ (s' : Pz) (l : List Wd) (ad : Option Addr) (n cap : Nat), s'.toks.length ≤ g ∧ g ≤ n0 ∧ l.length + g ≤ 100001 ∧ Hid (l ≠ [] ∧ (x1 :: (Pz.altsN n0 s2).1, (Pz.altsN n0 s2).2) = (l ++ (Pz.altsN g s').1, (Pz.altsN g s').2) ∧ Ho Kw 59 itC W1 W5 W1.heap.size wr b ib mp s' (.slice ad n cap) l))
 case atStart => exact ⟨s2, [x1], _, 1, 1, hs2n, ler _, by simp; omega, hide ⟨by simp, rfl, uh H5⟩⟩
 case round =>
  clear H5
  obtain ⟨s', l, ad, n, cap, hg, hg2, hlg, HI⟩ := hrel
  have HSW := hide (pskip_any wr b mp s' kBar (uh HI).2.2.pz)
  cases hs : s'.sees [kBar] with
  | true =>
    have hsk : s'.skips kBar = s'.take := by unfold Pz.skips; rw [hs]; rfl
    rw [hs, hsk] at HSW
    cases gk with
    | zero =>
      rw [sees_nil (List.eq_nil_of_length_eq_zero (by omega)) (by decide)] at hs
      cases hs
    | succ m =>
      have HE : Hid ((x1 :: (Pz.altsN n0 s2).1, (Pz.altsN n0 s2).2) = ((l ++ [s'.take.word.1]) ++ (Pz.altsN m s'.take.word.2).1, (Pz.altsN m s'.take.word.2).2)) := hide (by
       rw [(uh HI).2.1, altsN_succ m s', hs]
       simp)
      have htk := take_less s'
      have hwl := wordS_less s'.take
      have hm3 : s'.take.word.2.toks.length ≤ m := by omega
      clear hs hsk htk hwl
      go_wp2_with fail
      refine (uh HSW).mono ?_
      rintro e w6 ⟨rfl, p6, f6⟩
      have H6 := hide ((uh HI).2.2.step p6 f6)
      have c4 : w6.cell? ⟨ib, 0, none⟩ = some (.slice ad n cap) := (uh H6).cb.cell 0 rfl
      clear p6 f6 HSW
      have HCT : Hid (∀ W, Below w6.heap.size w6 W → Calls Tryz.prog 63 #[.pointer (some ⟨b, 0, none⟩)] W fun e w' => ∃ adv nv cv ad4 n4 cap4 w3, e = .returned (.slice adv nv cv) ∧ w'.cell? ⟨ib, 0, none⟩ = some (.slice ad n cap) ∧ (∀ ty, (Builtin.append_ #[29, 29] ty #[.slice ad n cap, .slice (some ⟨w'.heap.size, 0, none⟩) 1 1]).run Tryz.prog (w'.alloc (.cells #[.slice adv nv cv] 36)) = .ok (.slice ad4 n4 cap4) w3) ∧ w3.cell? ⟨ib, 0, none⟩ = some (.slice ad n cap) ∧ w3.frozen? ⟨ib, 0, none⟩ = false ∧ Hid (Ho Kw 59 itC W1 W5 W1.heap.size (w3.setCell ⟨ib, 0, none⟩ (.slice ad4 n4 cap4)) b ib mp s'.take.word.2 (.slice ad4 n4 cap4) (l ++ [s'.take.word.1]))) := hide (fun W hB => by
       have h5 := (uh H6).below hB
       refine (pword_any W b mp s'.take h5.pz h5.env.we hb).mono ?_
       rintro e w' ⟨v, e1, e2, e3, e4⟩
       obtain ⟨adv, cv, hv, _⟩ := e2.len
       subst hv
       obtain ⟨ad4, n4, cap4, w3, r1, r2, r3⟩ := h5.add e3 e4 (x := s'.take.word.1) (ec := [.slice adv s'.take.word.1.length cv]) ⟨_, rfl, e2⟩ 29 (z := .slice none 0 0) (bytes := 24) (by kernel_rfl) (by kernel_rfl) (by kernel_rfl) (by decide) (by decide) (by omega)
       exact ⟨adv, _, cv, ad4, n4, cap4, w3, e1, (h5.step e3 e4).cb.cell 0 rfl, r1, r2.cell 0 rfl, r2.frozen 0, hide (r3 0 rfl)⟩)
      clear HI H6
      go_upto_region 4 with fail
      refine wp_region_held_drew (S := fun _ => True) (by kernel_rfl) trivial (fun hHeld => ?_)
      refine tk 0 (v := ?_) ?_ ?_
      rotate_left
      ·intro w hSw; (try dsimp only at hSw); go_simp; (try with_reducible rfl)
      go_frame
      refine tk 2 (v := ?_) ?_ ?_
      rotate_left
      ·intro w hSw; (try dsimp only at hSw); go_simp; (try with_reducible rfl)
      go_frame
      refine wpAnyH_ready (rs := [1, 3]) (by kernel_rfl) (by simp) ?_
      refine AllReadyH.cons rfl (fun KK hKK => ?_) (AllReadyH.cons rfl (fun KK hKK => ?_) AllReadyH.nil)
      focus
       go_simp
       refine hKK.out _ _ trivial (fun hHeld => ?_)
       clear hKK KK
       try go_frame
       refine rd1 3 (fun KK hKK => ?_)
       go_simp
       refine (uh HCT _ (by first | exact Below.refl _ _ | exact below_drew' _ _)).mono ?_
       rintro e w7 ⟨adv, nv, cv, ad4, n4, cap4, w8, rfl, d4, hrun, d5, d6, HS8⟩
       have HRUN := hide hrun
       clear hrun
       refine hKK.out _ _ trivial (fun hHeld => ?_)
       clear hKK KK
       try go_frame
       refine rd1 4 (fun KK hKK => ?_)
       go_simp
       have d4b : (w7.alloc (.cells #[.slice adv nv cv] 36)).cell? ⟨ib, 0, none⟩ = some (.slice ad n cap) := cell_alloc d4 _
       refine hKK.out _ _ trivial (fun hHeld => ?_)
       clear hKK KK
       try go_frame
       refine rd1 5 (fun KK hKK => ?_)
       refine step_app_run (by rfl) _ _ _ (by rfl) _ _ _ (by simp [Act.eval]) (by simp [Act.eval]) (uh HRUN) ?_
       refine hKK.out _ _ trivial (fun hHeld => ?_)
       clear hKK KK
       try go_frame
       refine tk 6 (v := ?_) ?_ ?_
       rotate_left
       ·intro w hSw; (try dsimp only at hSw); go_simp; (try with_reducible rfl)
       go_frame
       refine rd1 7 (fun KK hKK => ?_)
       go_simp
       refine hKK.out _ _ trivial (fun hHeld => ?_)
       clear hKK KK
       try go_frame
       clear hHeld
       refine wpAnyH_done (by kernel_rfl) ?_ _
      rotate_left
      focus
       go_simp
       refine (uh HCT _ (by first | exact Below.refl _ _ | exact below_drew' _ _)).mono ?_
       rintro e w7 ⟨adv, nv, cv, ad4, n4, cap4, w8, rfl, d4, hrun, d5, d6, HS8⟩
       have HRUN := hide hrun
       clear hrun
       refine hKK.out _ _ trivial (fun hHeld => ?_)
       clear hKK KK
       try go_frame
       refine wpAnyH_ready (rs := [1, 4]) (by kernel_rfl) (by simp) ?_
       refine AllReadyH.cons rfl (fun KK hKK => ?_) (AllReadyH.cons rfl (fun KK hKK => ?_) AllReadyH.nil)
       focus
        go_simp
        refine hKK.out _ _ trivial (fun hHeld => ?_)
        clear hKK KK
        try go_frame
        refine rd1 4 (fun KK hKK => ?_)
        go_simp
        have d4b : (w7.alloc (.cells #[.slice adv nv cv] 36)).cell? ⟨ib, 0, none⟩ = some (.slice ad n cap) := cell_alloc d4 _
        refine hKK.out _ _ trivial (fun hHeld => ?_)
        clear hKK KK
        try go_frame
        refine rd1 5 (fun KK hKK => ?_)
        refine step_app_run (by rfl) _ _ _ (by rfl) _ _ _ (by simp [Act.eval]) (by simp [Act.eval]) (uh HRUN) ?_
        refine hKK.out _ _ trivial (fun hHeld => ?_)
        clear hKK KK
        try go_frame
        refine tk 6 (v := ?_) ?_ ?_
        rotate_left
        ·intro w hSw; (try dsimp only at hSw); go_simp; (try with_reducible rfl)
        go_frame
        refine rd1 7 (fun KK hKK => ?_)
        go_simp
        refine hKK.out _ _ trivial (fun hHeld => ?_)
        clear hKK KK
        try go_frame
        clear hHeld
        refine wpAnyH_done (by kernel_rfl) ?_ _
       rotate_left
       focus
        go_simp
        have d4b : (w7.alloc (.cells #[.slice adv nv cv] 36)).cell? ⟨ib, 0, none⟩ = some (.slice ad n cap) := cell_alloc d4 _
        refine hKK.out _ _ trivial (fun hHeld => ?_)
        clear hKK KK
        try go_frame
        refine rd1 1 (fun KK hKK => ?_)
        go_simp
        refine hKK.out _ _ trivial (fun hHeld => ?_)
        clear hKK KK
        try go_frame
        refine rd1 5 (fun KK hKK => ?_)
        refine step_app_run (by rfl) _ _ _ (by rfl) _ _ _ (by simp [Act.eval]) (by simp [Act.eval]) (uh HRUN) ?_
        refine hKK.out _ _ trivial (fun hHeld => ?_)
        clear hKK KK
        try go_frame
        refine tk 6 (v := ?_) ?_ ?_
        rotate_left
        ·intro w hSw; (try dsimp only at hSw); go_simp; (try with_reducible rfl)
        go_frame
        refine rd1 7 (fun KK hKK => ?_)
        go_simp
        refine hKK.out _ _ trivial (fun hHeld => ?_)
        clear hKK KK
        try go_frame
        clear hHeld
        refine wpAnyH_done (by kernel_rfl) ?_ _
       rotate_left
      rotate_left 2
      all_goals
       clear d4 d4b d5 d6 HCT HRUN c4
       go_wp2_with fail
       go_roundg m
       case measure => omega
       case rel => exact ⟨s'.take.word.2, l ++ [s'.take.word.1], ad4, n4, cap4, hm3, by omega, by simp; omega, hide ⟨by simp, uh HE, uh HS8⟩⟩
  | false =>
    have hsk : s'.skips kBar = s' := by unfold Pz.skips; rw [hs]; rfl
    rw [hs, hsk] at HSW
    have HQ : Hid (x1 :: (Pz.altsN n0 s2).1 = l ∧ (Pz.altsN n0 s2).2 = s') := hide (by
     have h := (uh HI).2.1
     rw [alts_nil hs, List.append_nil] at h
     exact Prod.mk.inj h)
    have HR2 : Hid (R = if (s'.want kRp).gap.sees [kDsemi, kEsac] then ((l, []), (s'.want kRp).gap) else ((l, [(lst (s'.want kRp).gap).1]), (lst (s'.want kRp).gap).2)) := hide (by rw [uh HR, (uh HQ).1, (uh HQ).2])
    have HN3 : Hid ((s'.want kRp).gap.toks.length < N) := hide (by have := uh HN2; rw [(uh HQ).2] at this; exact this)
    clear hs hsk HQ HR HN2
    go_wp2_with fail
    refine (uh HSW).mono ?_
    rintro e w6 ⟨rfl, p6, f6⟩
    have H6 := hide ((uh HI).2.2.step p6 f6)
    have HWT := hide (pwant_any w6 b mp s' kRp p6)
    clear p6 f6 HSW HI
    go_wp2_with fail
    refine (uh HWT).mono ?_
    rintro e w7 ⟨rfl, p7, f7⟩
    have H7 := hide ((uh H6).step p7 f7)
    have HGP := hide (pgap_any w7 b mp (s'.want kRp) p7)
    clear p7 f7 HWT H6
    go_wp2_with fail
    refine (uh HGP).mono ?_
    rintro e w8 ⟨rfl, p8, f8⟩
    have H8 := hide ((uh H7).step p8 f8)
    have HSE := hide (uh HSN w8 (s'.want kRp).gap p8)
    obtain ⟨s3, hs3⟩ : ∃ s3, s3 = (s'.want kRp).gap := ⟨_, rfl⟩
    rw [← hs3] at H8 HSE HR2 HN3
    clear p8 f8 HGP H7 HSN hs3
    cases hse : s3.sees [kDsemi, kEsac] with
    | true =>
      rw [hse] at HSE HR2
      have HE : Hid (R = ((l, []), s3)) := hide (by rw [uh HR2]; rfl)
      clear hse HR2 HLL HN3
      go_wp2_with fail
      refine (uh HSE).mono ?_
      rintro e w9 ⟨rfl, b9⟩
      have H9 := hide ((uh H8).below b9)
      have HR9 := hide ((uh R1).step (uh H9).pz (uh H9).leg.fr)
      have c0 : w9.cell? ⟨ib, 0, none⟩ = some (.slice ad n cap) := (uh H9).cb.cell 0 rfl
      have c1 : w9.cell? ⟨ib, 1, none⟩ = some (.slice none 0 0) := (uh H9).cb.cell 1 rfl
      have z0 : w9.cell? ⟨nb, 0, none⟩ = some (.slice none 0 0) := (uh HR9).res.cell 0 rfl
      have z1 : w9.cell? ⟨nb, 1, none⟩ = some (.slice none 0 0) := (uh HR9).res.cell 1 rfl
      have zf : ∀ i, w9.frozen? ⟨nb, i, none⟩ = false := fun i => (uh HR9).res.frozen i
      have HFIN : Hid (Blk ((w9.setCell ⟨nb, 0, none⟩ (.slice ad n cap)).setCell ⟨nb, 1, none⟩ (.slice none 0 0)) nb 59 #[.slice ad n cap, .slice none 0 0] ∧ Ki.rel ((w9.setCell ⟨nb, 0, none⟩ (.slice ad n cap)).setCell ⟨nb, 1, none⟩ (.slice none 0 0)) (New w ((w9.setCell ⟨nb, 0, none⟩ (.slice ad n cap)).setCell ⟨nb, 1, none⟩ (.slice none 0 0))) (l, []) [.slice ad n cap, .slice none 0 0] ∧ PzAt ((w9.setCell ⟨nb, 0, none⟩ (.slice ad n cap)).setCell ⟨nb, 1, none⟩ (.slice none 0 0)) b mp s3 ∧ Fr w ((w9.setCell ⟨nb, 0, none⟩ (.slice ad n cap)).setCell ⟨nb, 1, none⟩ (.slice none 0 0)) b) := hide (by
       have g := (fr_set w9 nb 0 (.slice ad n cap)).trans (fr_set _ nb 1 (.slice none 0 0))
       have hq := uh HWB
       have hk := ((uh HR9).res.set 0 (.slice ad n cap)).set 1 (.slice none 0 0)
       refine ⟨hk, ⟨_, _, rfl, (uh H9).done.kept (fun k hk => g.block k hk.2.1 (fun e => by omega)) (fun k hk => ⟨by omega, lle hk.2.1 g.size⟩), nilrow _ _ _⟩, (uh H9).pz.grownS g (fun k e => by omega), ?_⟩
       exact (((leg_fr (uh HR9).fr : Leg w.heap.size b w w9)).trans (leg_new g hq.2.2.1)).fr)
      clear b9 HSE H8 H9 HR9
      go_wp2
      refine bodyPost_ret (results_cell_row (P := Tryz.prog) rfl _ _ nb 59 _ (0, 0) _ rfl (uh HFIN).1 Tryz.underlying59 rfl (by kernel_rfl)) rfl ⟨_, _, _, _, _, _, rfl, hide (by rw [uh HE]; exact (uh HFIN).2)⟩
    | false =>
      rw [hse] at HSE HR2
      have HE : Hid (R = ((l, [(lst s3).1]), (lst s3).2)) := hide (by rw [uh HR2]; rfl)
      clear hse HR2
      go_wp2_with fail
      refine (uh HSE).mono ?_
      rintro e w9 ⟨rfl, b9⟩
      have H9 := hide ((uh H8).below b9)
      have HR9 := hide ((uh R1).step (uh H9).pz (uh H9).leg.fr)
      have HLI := hide (uh HLL w9 s3 (uh H9).pz (uh H9).env (uh HM w9 (uh HR9).fr) (uh HN3))
      unfold Reads at HLI
      clear b9 HSE H8 HLL HN3
      go_wp2_with fail
      refine (uh HLI).mono ?_
      rintro e w10 ⟨x, rfl, HG⟩
      have H10 := hide ((uh H9).step (uh HG).pz (uh HG).fr)
      obtain ⟨g11, hg11⟩ : ∃ g11, g11 = w10.heap.size := ⟨_, rfl⟩
      obtain ⟨W11, hW11⟩ : ∃ W11, W11 = w10.alloc (.cells #[.int .i64 x.k, .bool x.no, .slice x.al x.nl x.cl, .slice x.aw x.nw x.cw, .slice x.ar x.nr x.cr, .slice x.ac x.nc x.cc, .string (BA x.nm), .bool x.ev, .slice x.ai x.ni x.ci] 33) := ⟨_, rfl⟩
      have b11 : Below w10.heap.size w10 W11 := by rw [hW11]; exact (Below.refl _ w10).alloc (ler _) _
      have H11 := hide ((uh H10).below b11)
      have HR11 := hide ((uh R1).step (uh H11).pz (uh H11).leg.fr)
      have hrow := one_row (uh HG).cm (uh HG).fr.size
      rw [← hW11, ← hg11] at hrow
      have HRW := hide hrow
      have c0 : W11.cell? ⟨ib, 0, none⟩ = some (.slice ad n cap) := (uh H11).cb.cell 0 rfl
      have c1 : W11.cell? ⟨ib, 1, none⟩ = some (.slice none 0 0) := (uh H11).cb.cell 1 rfl
      have cf : ∀ i, W11.frozen? ⟨ib, i, none⟩ = false := fun i => (uh H11).cb.frozen i
      have z0 : W11.cell? ⟨nb, 0, none⟩ = some (.slice none 0 0) := (uh HR11).res.cell 0 rfl
      have z1 : W11.cell? ⟨nb, 1, none⟩ = some (.slice none 0 0) := (uh HR11).res.cell 1 rfl
      have zf : ∀ i, W11.frozen? ⟨nb, i, none⟩ = false := fun i => (uh HR11).res.frozen i
      have hnbi : nb ≠ ib := by have := (uh H11).new; have := (uh HWB).2.1; omega
      have hnbi2 : ib ≠ nb := fun e => hnbi e.symm
      have HFIN : Hid (Blk (((W11.setCell ⟨ib, 1, none⟩ (.slice (some ⟨g11, 0, none⟩) 1 1)).setCell ⟨nb, 0, none⟩ (.slice ad n cap)).setCell ⟨nb, 1, none⟩ (.slice (some ⟨g11, 0, none⟩) 1 1)) nb 59 #[.slice ad n cap, .slice (some ⟨g11, 0, none⟩) 1 1] ∧ Ki.rel (((W11.setCell ⟨ib, 1, none⟩ (.slice (some ⟨g11, 0, none⟩) 1 1)).setCell ⟨nb, 0, none⟩ (.slice ad n cap)).setCell ⟨nb, 1, none⟩ (.slice (some ⟨g11, 0, none⟩) 1 1)) (New w (((W11.setCell ⟨ib, 1, none⟩ (.slice (some ⟨g11, 0, none⟩) 1 1)).setCell ⟨nb, 0, none⟩ (.slice ad n cap)).setCell ⟨nb, 1, none⟩ (.slice (some ⟨g11, 0, none⟩) 1 1))) (l, [(lst s3).1]) [.slice ad n cap, .slice (some ⟨g11, 0, none⟩) 1 1] ∧ PzAt (((W11.setCell ⟨ib, 1, none⟩ (.slice (some ⟨g11, 0, none⟩) 1 1)).setCell ⟨nb, 0, none⟩ (.slice ad n cap)).setCell ⟨nb, 1, none⟩ (.slice (some ⟨g11, 0, none⟩) 1 1)) b mp (lst s3).2 ∧ Fr w (((W11.setCell ⟨ib, 1, none⟩ (.slice (some ⟨g11, 0, none⟩) 1 1)).setCell ⟨nb, 0, none⟩ (.slice ad n cap)).setCell ⟨nb, 1, none⟩ (.slice (some ⟨g11, 0, none⟩) 1 1)) b) := hide (by
       have g0 := fr_set W11 ib 1 (.slice (some ⟨g11, 0, none⟩) 1 1)
       have g := (fr_set (W11.setCell ⟨ib, 1, none⟩ (.slice (some ⟨g11, 0, none⟩) 1 1)) nb 0 (.slice ad n cap)).trans (fr_set _ nb 1 (.slice (some ⟨g11, 0, none⟩) 1 1))
       have hq := uh HWB
       have hni := (uh H11).new
       have hib := (uh H9).cb.lt
       have hi1 := g0.size
       have hk := (((uh HR11).res.grownS g0 hnbi).set 0 (.slice ad n cap)).set 1 (.slice (some ⟨g11, 0, none⟩) 1 1)
       have hsame : ∀ k, k < W11.heap.size → k ≠ ib → k ≠ nb → ((((W11.setCell ⟨ib, 1, none⟩ (.slice (some ⟨g11, 0, none⟩) 1 1)).setCell ⟨nb, 0, none⟩ (.slice ad n cap)).setCell ⟨nb, 1, none⟩ (.slice (some ⟨g11, 0, none⟩) 1 1))).heap[k]? = W11.heap[k]? := fun k h1 h2 h3 => (g.block k (by omega) h3).trans (g0.block k h1 h2)
       have hsz := lee g0.size g.size
       have h9 := (uh HR9).fr.size
       have h11 := (uh HR11).res.lt
       refine ⟨hk, ⟨_, _, rfl, (uh H11).done.kept (fun k hk => hsame k hk.2.1 hk.2.2 (fun e => by omega)) (fun k hk => ⟨by omega, by omega⟩), (uh HRW).kept (fun k hk => hsame k hk.2 (fun e => by have := hk.1; omega) (fun e => by have := hk.1; have := (uh HR9).res.lt; omega)) (fun k hk => ⟨by have := hk.1; omega, by have := hk.2; omega⟩)⟩, ((uh H11).pz.grownS g0 (fun k e => by omega)).grownS g (fun k e => by omega), ?_⟩
       exact ((((leg_fr (uh HR11).fr : Leg w.heap.size b w W11)).trans (leg_new g0 (by omega))).trans (leg_new g hq.2.2.1)).fr)
      clear b11 hrow HRW H10 H9 HR9 HR11 H11 HG HLI
      subst hW11
      subst hg11
      go_wp2
      refine bodyPost_ret (results_cell_row (P := Tryz.prog) rfl _ _ nb 59 _ (0, 0) _ rfl (uh HFIN).1 Tryz.underlying59 rfl (by kernel_rfl)) rfl ⟨_, _, _, _, _, _, rfl, hide (by rw [uh HE]; exact (uh HFIN).2)⟩
end Go.Proofs.YtojjfdobilkknaaGreatDoor

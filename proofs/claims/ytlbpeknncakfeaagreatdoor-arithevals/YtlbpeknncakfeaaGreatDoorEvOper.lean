/-
  A choice: the document's 'choice'.
  What stands ahead of an operand, names and numbers: plainly.
  The document's 'operand': a name, a number.
-/
import Derived.Test.YtlbpeknncakfeaaGreatDoorEvSides
import Derived.Test.YtlbpeknncakfeaaGreatDoorValPlain

/- A choice: the document's 'choice'. -/
namespace Go.Proofs.YtlbpeknncakfeaaGreatDoor
open Go.RowKit Go.Maps
attribute [local irreducible] findOp findSign

theorem Ev.choice0 {vars : Pairs} {x y z : E} {d : Nat} {e : Int} {sets : Pairs} {e1 : Int} {t1 : Pairs} {a e2 : Int} {t2 : Pairs} {n e3 : Int} {t3 : Pairs} (hx : Ev vars x (liveB d false e) e sets 0 e1 t1)
    (hy : Ev vars y (liveB (d + 1) false e1) e1 t1 a e2 t2) (hz : Ev vars z (liveB d false e2) e2 t2 n e3 t3) : Ev vars (.choice x y z) (liveB d false e) e sets n e3 t3 := by
  rw [live_dead] at hy
  obtain ⟨rfl, rfl⟩ := hy.dead
  rcases Bool.eq_false_or_eq_true (liveB d false e) with hl | hl
  · rw [hl] at hx ⊢
    rcases hv : evalR vars x sets with c | ⟨m, t⟩
    · obtain ⟨rfl, hc⟩ := hx.err hv
      rw [live_err hc] at hz
      obtain ⟨rfl, rfl⟩ := hz.dead
      exact Ev.of_err (by rw [evalR, hv]) hc
    · obtain ⟨rfl, rfl, rfl⟩ := hx.ok hv
      obtain ⟨rfl, _, rfl⟩ := live_same hl
      rw [hl] at hz
      have hr : evalR vars (.choice x y z) sets = evalR vars z t2 := by rw [evalR, hv]; rfl
      rcases hw : evalR vars z t2 with c | ⟨m, t⟩
      · obtain ⟨rfl, hc⟩ := hz.err hw
        exact Ev.of_err (by rw [hr, hw]) hc
      · obtain ⟨rfl, rfl, rfl⟩ := hz.ok hw
        exact Ev.of_ok (by rw [hr, hw])
  · rw [hl] at hx ⊢
    obtain ⟨rfl, rfl⟩ := hx.dead
    rw [hl] at hz
    obtain ⟨rfl, rfl⟩ := hz.dead
    exact Ev.of_dead _ _ _ _ _
theorem Ev.choice1 {vars : Pairs} {x y z : E} {d : Nat} {e : Int} {sets : Pairs} {c e1 : Int} {t1 : Pairs} {n e2 : Int} {t2 : Pairs} {a e3 : Int} {t3 : Pairs} (hc0 : c ≠ 0) (hx : Ev vars x (liveB d false e) e sets c e1 t1)
    (hy : Ev vars y (liveB d false e1) e1 t1 n e2 t2) (hz : Ev vars z (liveB (d + 1) false e2) e2 t2 a e3 t3) : Ev vars (.choice x y z) (liveB d false e) e sets n e3 t3 := by
  rw [live_dead] at hz
  obtain ⟨rfl, rfl⟩ := hz.dead
  rcases Bool.eq_false_or_eq_true (liveB d false e) with hl | hl
  · rw [hl] at hx ⊢
    rcases hv : evalR vars x sets with c' | ⟨m, t⟩
    · obtain ⟨rfl, hc⟩ := hx.err hv
      rw [live_err hc] at hy
      obtain ⟨rfl, rfl⟩ := hy.dead
      exact Ev.of_err (by rw [evalR, hv]) hc
    · obtain ⟨rfl, rfl, rfl⟩ := hx.ok hv
      obtain ⟨rfl, _, rfl⟩ := live_same hl
      rw [hl] at hy
      have hr : evalR vars (.choice x y z) sets = evalR vars y t1 := by
        rw [evalR, hv]
        simp only []
        rw [if_pos (by simpa using hc0)]
      rcases hw : evalR vars y t1 with c' | ⟨m, t⟩
      · obtain ⟨rfl, hc⟩ := hy.err hw
        exact Ev.of_err (by rw [hr, hw]) hc
      · obtain ⟨rfl, rfl, rfl⟩ := hy.ok hw
        exact Ev.of_ok (by rw [hr, hw])
  · rw [hl] at hx ⊢
    obtain ⟨rfl, rfl⟩ := hx.dead
    rw [hl] at hy
    obtain ⟨rfl, rfl⟩ := hy.dead
    exact Ev.of_dead _ _ _ _ _

theorem tk_cases (c : UInt8) (hc : c ≠ 0) (r : List UInt8) : (∃ r1, sk r = c :: r1 ∧ tk c r = some r1 ∧ byteA (sk r) 0 = (c.toNat : Int)) ∨ (tk c r = none ∧ byteA (sk r) 0 ≠ (c.toNat : Int)) := by
  have hs := sk_sk r
  rcases hm : sk r with _ | ⟨x, r1⟩
  · right
    refine ⟨by unfold tk; rw [hm]; rfl, ?_⟩
    show (0 : Int) ≠ _
    intro h
    apply hc
    have : c.toNat = 0 := by omega
    exact UInt8.toNat_inj.1 this
  · rw [hm] at hs
    have ht := tk_cons x c r1 hs
    have e : tk c r = tk c (x :: r1) := tk_sk (by rw [hm, hs])
    rw [e, ht]
    by_cases hx : x = c
    · left
      subst hx
      exact ⟨r1, rfl, by rw [if_pos rfl], rfl⟩
    · right
      refine ⟨by rw [if_neg hx], ?_⟩
      show (x.toNat : Int) ≠ _
      intro h
      apply hx
      exact UInt8.toNat_inj.1 (by omega)

theorem byteA_at (s : ByteArray) (p : Nat) : sbb s p = byteA (s.data.toList.drop p) 0 := by
  have := sbb_drop s p 0
  simpa using this
theorem drop_step {s : ByteArray} {p : Nat} {c : UInt8} {r : List UInt8} (h : s.data.toList.drop p = c :: r) : p < s.size ∧ s.data.toList.drop (p + 1) = r := by
  refine ⟨?_, ?_⟩
  · rcases Nat.lt_or_ge p s.size with h1 | h1
    · exact h1
    · rw [List.drop_eq_nil_of_le (by simpa using h1)] at h
      cases h
  · rw [← List.drop_drop, h]
    rfl

set_option maxRecDepth 20000 in
set_option maxHeartbeats 32000000 in
theorem choiceD_step {M : Nat} (hS : MethS 1 M) (hE : ∀ N, N < M → Meth 27 DE N) (hC : ∀ N, N < M → Meth 46 DC N) : Meth 46 DC M := by
  intro w n₀ b s p d e va vars sets sv h hN
  have hlen := h.wk.len
  have hple := h.wk.le
  have hdp := h.dle
  have HS := hide (hS w n₀ b s p d e va vars sets sv h hN)
  have HE := hide hE
  have HC := hide hC
  have HN := hide hN
  have hdc := DC_eq (s.data.toList.drop p)
  clear hS hE hC h hN
  go_enter Tryz.func46, Tryz.ntmps46
  go_wp2_with fail
  refine (unhide HS _ rfl).mono ?_
  rintro en w1 ⟨b1, c, rfl, hc, p1, e1, t1, sv1, hp1, hr⟩
  have B1 := hide b1
  have HCI := hide hc
  clear b1 hc HS
  rcases hq : DS 1 (s.data.toList.drop p) with _ | ⟨x, r⟩
  · rw [hq] at hr hdc
    have HR := hide hr
    have HDC := hide hdc
    clear hr hdc hq
    go_wp2_with fail
    refine (rskip_any b s p1 d true e1 va sv1 w1 (unhide HR).wk).mono ?_
    rintro en w2 ⟨rfl, k2, g2⟩
    have c3 := k2.c3
    have HW2 := hide ((unhide HR).next g2 k2 (skp_le (unhide HR).wk.le).2 (by have := (skp_le (unhide HR).wk.le).2; have := (unhide HR).dle; omega))
    have B2 := hide ((unhide B1).trans (below_some g2 (Nat.le_of_lt (unhide HR).wk.blk.lt)))
    clear k2 g2
    go_wp2
    go_ret
    refine ⟨unhide B2, c, rfl, unhide HCI, skp s p1, e1, t1, sv1, ?_, ?_⟩
    · exact Nat.le_trans hp1 (skp_le (unhide HR).wk.le).2
    · rw [unhide HDC]
      exact unhide HW2
  · rw [hq] at hr hdc
    obtain ⟨hws, hrest, hev⟩ := hr
    simp only [] at hdc
    have HEV := hide hev
    have hsk := skp_le hws.wk.le
    have hdr := drop_skp s p1
    rw [hrest] at hdr
    obtain ⟨p2, hp2⟩ : ∃ x, x = skp s p1 := ⟨_, rfl⟩
    have HSK := hide (rskip_any b s p1 d false e1 va sv1 w1 hws.wk)
    rw [← hp2] at HSK hsk hdr
    have HWS := hide hws
    have hd1 := hws.dle
    clear hws hev hq hp2 hrest
    go_wp2_with fail
    refine (unhide HSK).mono ?_
    rintro en w2 ⟨rfl, k2, g2⟩
    have c1 := k2.c1
    have c3 := k2.c3
    have z1 := k2.blk.frozen 1
    have HW2 := hide ((unhide HWS).next g2 k2 hsk.2 (by omega))
    have B2 := hide ((unhide B1).trans (below_some g2 (Nat.le_of_lt (unhide HWS).wk.blk.lt)))
    have HSG := hide (rsign_any p2 b s p2 d false e1 va sv1 w2 k2)
    rw [byteA_at, hdr] at HSG
    clear k2 g2 HSK HWS
    rcases tk_cases 63 (by decide) r with ⟨r1, hm, ht, hby⟩ | ⟨ht, hby⟩
    · rw [hby] at HSG
      rw [ht] at hdc
      simp only [] at hdc
      rw [hm] at hdr
      obtain ⟨hlt, hd2⟩ := drop_step hdr
      obtain ⟨q, hqq⟩ : ∃ x, x = p2 + 1 := ⟨_, rfl⟩
      rw [← hqq] at hd2
      have hwq : IntKind.i64.wrap ((p2 : Int) + 1) = (q : Int) := by rw [IntKind.wrap_i64]; omega
      have hq2 : q ≤ s.size ∧ p < q ∧ d < q ∧ s.size ≤ q + (s.size - q) := by omega
      have hpq2 : p2 ≤ q := by omega
      have hNM : s.size - q < M := by have := unhide HN; omega
      have HE2 := hide (unhide HE (s.size - q) hNM)
      have HQQ := hide hqq
      clear hm ht hby hqq hNM
      go_wp2_with fail
      refine (unhide HSG).mono ?_
      rintro en w3 ⟨rfl, hw3⟩
      have hw4 := hw3.symm
      subst hw4
      clear hw3
      by_cases hc0 : c = 0
      · subst hc0
        obtain ⟨d1, hd1e⟩ : ∃ x, x = d + 1 := ⟨_, rfl⟩
        have hwd : IntKind.i64.wrap ((d : Int) + 1) = (d1 : Int) := by rw [IntKind.wrap_i64]; omega
        have hwb : IntKind.i64.wrap ((d1 : Int) - 1) = (d : Int) := by rw [IntKind.wrap_i64]; omega
        have z2 := ((unhide HW2).wk.to q hq2.1).blk.frozen 2
        have c2' := ((unhide HW2).wk.to q hq2.1).c2
        have HWA : Hid (Ws ((w2.setCell ⟨b, 1, none⟩ (.int .i64 (q : Int))).setCell ⟨b, 2, none⟩ (.int .i64 (d1 : Int))) n₀ b s q d1 false e1 va vars t1 sv1) := hide ((unhide HW2).next ((grown_setCell w2 ⟨b, 1, none⟩ _).trans (grown_setCell _ ⟨b, 2, none⟩ _)) (((unhide HW2).wk.to q hq2.1).dead d1) (by omega) (by omega))
        have BA2 : Hid (Below b w ((w2.setCell ⟨b, 1, none⟩ (.int .i64 (q : Int))).setCell ⟨b, 2, none⟩ (.int .i64 (d1 : Int)))) := hide ((unhide B2).trans (below_some ((grown_setCell w2 ⟨b, 1, none⟩ _).trans (grown_setCell _ ⟨b, 2, none⟩ _)) (Nat.le_of_lt (unhide HW2).wk.blk.lt)))
        have HD1 := hide hd1e
        clear hd1e
        go_wp2_with fail
        refine (unhide HE2 _ n₀ b s q d1 e1 va vars t1 sv1 (unhide HWA) hq2.2.2.2).mono ?_
        rintro en w4 ⟨b4, ay, rfl, hay, p3, e2, t2, sv2, hp3, hr3⟩
        have B4 := hide ((unhide BA2).trans b4)
        rw [hd2] at hr3
        clear b4 c1 c3 z1 z2 c2'
        rcases hqe : DE r1 with _ | ⟨y, r2⟩
        · rw [hqe] at hr3 hdc
          have HR3 := hide hr3
          have HDC := hide hdc
          have v2 := (unhide HR3).wk.c2
          have u2 := (unhide HR3).wk.blk.frozen 2
          have HR4 := hide ((unhide HR3).next (grown_setCell w4 ⟨b, 2, none⟩ (.int .i64 (d : Int))) ((unhide HR3).wk.dead d) (Nat.le_refl _) (by omega))
          replace B4 := hide ((unhide B4).trans (below_some (grown_setCell w4 ⟨b, 2, none⟩ (.int .i64 (d : Int))) (Nat.le_of_lt (unhide HR3).wk.blk.lt)))
          clear hr3 hdc hqe
          go_wp2_with fail
          refine (rskip_any b s p3 d true e2 va sv2 _ (unhide HR4).wk).mono ?_
          rintro en w5 ⟨rfl, k5, g5⟩
          have x3 := k5.c3
          have y3 := k5.blk.frozen 3
          have HW5 := hide ((unhide HR4).next g5 k5 (skp_le (unhide HR4).wk.le).2 (by have := (skp_le (unhide HR4).wk.le).2; have := (unhide HR4).dle; omega))
          have B5 := hide ((unhide B4).trans (below_some g5 (Nat.le_of_lt (unhide HR4).wk.blk.lt)))
          have hs5 := (skp_le (unhide HR4).wk.le).2
          clear k5 g5
          go_wp2
          go_ret
          refine ⟨(unhide B5).trans (below_some (grown_setCell w5 ⟨b, 3, none⟩ _) (Nat.le_of_lt (unhide HW5).wk.blk.lt)), 0, rfl, ⟨by decide, by decide⟩, skp s p3, e2, t2, sv2, ?_, ?_⟩
          · exact Nat.le_trans (by omega) hs5
          · rw [unhide HDC]
            exact (unhide HW5).next (grown_setCell w5 ⟨b, 3, none⟩ _) (unhide HW5).wk.bad (Nat.le_refl _) (unhide HW5).dle
        · rw [hqe] at hr3 hdc
          obtain ⟨hr3, hrest3, hev3⟩ := hr3
          have HR3 := hide hr3
          simp only [] at hdc
          have HEV3 := hide hev3
          have v2 := (unhide HR3).wk.c2
          have u2 := (unhide HR3).wk.blk.frozen 2
          have HR4 := hide ((unhide HR3).next (grown_setCell w4 ⟨b, 2, none⟩ (.int .i64 (d : Int))) ((unhide HR3).wk.dead d) (Nat.le_refl _) (by omega))
          replace B4 := hide ((unhide B4).trans (below_some (grown_setCell w4 ⟨b, 2, none⟩ (.int .i64 (d : Int))) (Nat.le_of_lt (unhide HR3).wk.blk.lt)))
          have hd4 := (unhide HR4).dle
          have hsk4 := skp_le (unhide HR4).wk.le
          have hdr4 := drop_skp s p3
          rw [hrest3] at hdr4
          obtain ⟨p4, hp4⟩ : ∃ x, x = skp s p3 := ⟨_, rfl⟩
          have HSK4 := hide (rskip_any b s p3 d false e2 va sv2 _ (unhide HR4).wk)
          rw [← hp4] at HSK4 hsk4 hdr4
          clear hr3 hqe hrest3 hev3 hp4
          go_wp2_with fail
          refine (unhide HSK4).mono ?_
          rintro en w5 ⟨rfl, k5, g5⟩
          have x1 := k5.c1
          have x3 := k5.c3
          have y1 := k5.blk.frozen 1
          have y3 := k5.blk.frozen 3
          have HW5 := hide ((unhide HR4).next g5 k5 hsk4.2 (by omega))
          have B5 := hide ((unhide B4).trans (below_some g5 (Nat.le_of_lt (unhide HR4).wk.blk.lt)))
          have HSG5 := hide (rsign_any p4 b s p4 d false e2 va sv2 w5 k5)
          rw [byteA_at, hdr4] at HSG5
          clear k5 g5 HSK4
          rcases tk_cases 58 (by decide) r2 with ⟨r3, hm, ht, hby⟩ | ⟨ht, hby⟩
          · rw [hby] at HSG5
            rw [ht] at hdc
            simp only [] at hdc
            rw [hm] at hdr4
            obtain ⟨hlt4, hd5⟩ := drop_step hdr4
            obtain ⟨q4, hq4⟩ : ∃ x, x = p4 + 1 := ⟨_, rfl⟩
            rw [← hq4] at hd5
            have hwq4 : IntKind.i64.wrap ((p4 : Int) + 1) = (q4 : Int) := by rw [IntKind.wrap_i64]; omega
            have hq5 : q4 ≤ s.size ∧ p < q4 ∧ d < q4 ∧ s.size ≤ q4 + (s.size - q4) := by omega
            have hpq4 : p4 ≤ q4 := by omega
            have HC2 := hide (unhide HC (s.size - q4) (by have := unhide HN; omega))
            have HQ4 := hide hq4
            have HDC := hide hdc
            clear hm ht hby hq4 hdc
            go_wp2_with fail
            refine (unhide HSG5).mono ?_
            rintro en w6 ⟨rfl, hw6⟩
            have hw7 := hw6.symm
            subst hw7
            clear hw6
            have HWC : Hid (Ws (w5.setCell ⟨b, 1, none⟩ (.int .i64 (q4 : Int))) n₀ b s q4 d false e2 va vars t2 sv2) := hide ((unhide HW5).next (grown_setCell w5 ⟨b, 1, none⟩ _) ((unhide HW5).wk.to q4 hq5.1) (by omega) (by omega))
            have BC := hide ((unhide B5).trans (below_some (grown_setCell w5 ⟨b, 1, none⟩ (.int .i64 (q4 : Int))) (Nat.le_of_lt (unhide HW5).wk.blk.lt)))
            go_wp2_with fail
            refine (unhide HC2 _ n₀ b s q4 d e2 va vars t2 sv2 (unhide HWC) hq5.2.2.2).mono ?_
            rintro en w8 ⟨b8, n8, rfl, hn8, p8, e8, t8, sv8, hp8, hr8⟩
            have HR8 := hide hr8
            have B8 := hide b8
            have HN8 := hide hn8
            clear hr8 b8 hn8 x1 x3 y1 y3
            go_wp2
            go_ret
            refine ⟨(unhide BC).trans (unhide B8), n8, rfl, unhide HN8, p8, e8, t8, sv8, by omega, ?_⟩
            rw [unhide HDC]
            have hr8 := unhide HR8
            rw [hd5] at hr8
            rcases hq8 : DC r3 with _ | ⟨z, r4⟩
            · rw [hq8] at hr8
              exact hr8
            · rw [hq8] at hr8
              refine ⟨hr8.1, hr8.2.1, ?_⟩
              have h3 := unhide HEV3
              rw [unhide HD1] at h3
              exact Ev.choice0 (unhide HEV) h3 hr8.2.2
          · have hby' : (byteA (sk r2) 0 == 58) = false := by rw [beq_eq_false_iff_ne]; exact hby
            rw [ht] at hdc
            have HDC := hide hdc
            clear ht hby hdc
            go_wp2_with fail
            refine (unhide HSG5).mono ?_
            rintro en w6 ⟨rfl, hw6⟩
            have hw7 := hw6.symm
            subst hw7
            clear hw6
            go_wp2
            go_ret
            refine ⟨(unhide B5).trans (below_some (grown_setCell w5 ⟨b, 3, none⟩ _) (Nat.le_of_lt (unhide HW5).wk.blk.lt)), 0, rfl, ⟨by decide, by decide⟩, p4, e2, t2, sv2, by omega, ?_⟩
            rw [unhide HDC]
            exact (unhide HW5).next (grown_setCell w5 ⟨b, 3, none⟩ _) (unhide HW5).wk.bad (Nat.le_refl _) (unhide HW5).dle
      · skip
        have hcb : (c == 0) = false := by simpa using hc0
        have HWA : Hid (Ws (w2.setCell ⟨b, 1, none⟩ (.int .i64 (q : Int))) n₀ b s q d false e1 va vars t1 sv1) := hide ((unhide HW2).next (grown_setCell w2 ⟨b, 1, none⟩ _) ((unhide HW2).wk.to q hq2.1) (by omega) (by omega))
        have BA2 : Hid (Below b w (w2.setCell ⟨b, 1, none⟩ (.int .i64 (q : Int)))) := hide ((unhide B2).trans (below_some (grown_setCell w2 ⟨b, 1, none⟩ _) (Nat.le_of_lt (unhide HW2).wk.blk.lt)))
        go_wp2_with fail
        refine (unhide HE2 _ n₀ b s q d e1 va vars t1 sv1 (unhide HWA) hq2.2.2.2).mono ?_
        rintro en w4 ⟨b4, ay, rfl, hay, p3, e2, t2, sv2, hp3, hr3⟩
        have B4 := hide ((unhide BA2).trans b4)
        have HAY := hide hay
        rw [hd2] at hr3
        clear b4 c1 c3 z1 hay
        rcases hqe : DE r1 with _ | ⟨y, r2⟩
        · rw [hqe] at hr3 hdc
          have HR3 := hide hr3
          have HDC := hide hdc
          have HR4 := HR3
          clear hr3 hdc hqe
          go_wp2_with fail
          refine (rskip_any b s p3 d true e2 va sv2 _ (unhide HR4).wk).mono ?_
          rintro en w5 ⟨rfl, k5, g5⟩
          have x3 := k5.c3
          have y3 := k5.blk.frozen 3
          have HW5 := hide ((unhide HR4).next g5 k5 (skp_le (unhide HR4).wk.le).2 (by have := (skp_le (unhide HR4).wk.le).2; have := (unhide HR4).dle; omega))
          have B5 := hide ((unhide B4).trans (below_some g5 (Nat.le_of_lt (unhide HR4).wk.blk.lt)))
          have hs5 := (skp_le (unhide HR4).wk.le).2
          clear k5 g5
          go_wp2
          go_ret
          refine ⟨(unhide B5).trans (below_some (grown_setCell w5 ⟨b, 3, none⟩ _) (Nat.le_of_lt (unhide HW5).wk.blk.lt)), 0, rfl, ⟨by decide, by decide⟩, skp s p3, e2, t2, sv2, ?_, ?_⟩
          · exact Nat.le_trans (by omega) hs5
          · rw [unhide HDC]
            exact (unhide HW5).next (grown_setCell w5 ⟨b, 3, none⟩ _) (unhide HW5).wk.bad (Nat.le_refl _) (unhide HW5).dle
        · rw [hqe] at hr3 hdc
          obtain ⟨hr3, hrest3, hev3⟩ := hr3
          have HR3 := hide hr3
          simp only [] at hdc
          have HEV3 := hide hev3
          have HR4 := HR3
          have hd4 := (unhide HR4).dle
          have hsk4 := skp_le (unhide HR4).wk.le
          have hdr4 := drop_skp s p3
          rw [hrest3] at hdr4
          obtain ⟨p4, hp4⟩ : ∃ x, x = skp s p3 := ⟨_, rfl⟩
          have HSK4 := hide (rskip_any b s p3 d false e2 va sv2 _ (unhide HR4).wk)
          rw [← hp4] at HSK4 hsk4 hdr4
          clear hr3 hqe hrest3 hev3 hp4
          go_wp2_with fail
          refine (unhide HSK4).mono ?_
          rintro en w5 ⟨rfl, k5, g5⟩
          have x1 := k5.c1
          have x3 := k5.c3
          have y1 := k5.blk.frozen 1
          have y3 := k5.blk.frozen 3
          have HW5 := hide ((unhide HR4).next g5 k5 hsk4.2 (by omega))
          have B5 := hide ((unhide B4).trans (below_some g5 (Nat.le_of_lt (unhide HR4).wk.blk.lt)))
          have HSG5 := hide (rsign_any p4 b s p4 d false e2 va sv2 w5 k5)
          rw [byteA_at, hdr4] at HSG5
          clear k5 g5 HSK4
          rcases tk_cases 58 (by decide) r2 with ⟨r3, hm, ht, hby⟩ | ⟨ht, hby⟩
          · rw [hby] at HSG5
            rw [ht] at hdc
            simp only [] at hdc
            rw [hm] at hdr4
            obtain ⟨hlt4, hd5⟩ := drop_step hdr4
            obtain ⟨q4, hq4⟩ : ∃ x, x = p4 + 1 := ⟨_, rfl⟩
            rw [← hq4] at hd5
            have hwq4 : IntKind.i64.wrap ((p4 : Int) + 1) = (q4 : Int) := by rw [IntKind.wrap_i64]; omega
            have hq5 : q4 ≤ s.size ∧ p < q4 ∧ d < q4 ∧ s.size ≤ q4 + (s.size - q4) := by omega
            have hpq4 : p4 ≤ q4 := by omega
            have HC2 := hide (unhide HC (s.size - q4) (by have := unhide HN; omega))
            have HQ4 := hide hq4
            have HDC := hide hdc
            clear hm ht hby hq4 hdc
            go_wp2_with fail
            refine (unhide HSG5).mono ?_
            rintro en w6 ⟨rfl, hw6⟩
            have hw7 := hw6.symm
            subst hw7
            clear hw6
            obtain ⟨d1, hd1e⟩ : ∃ x, x = d + 1 := ⟨_, rfl⟩
            have hwd : IntKind.i64.wrap ((d : Int) + 1) = (d1 : Int) := by rw [IntKind.wrap_i64]; omega
            have hwb : IntKind.i64.wrap ((d1 : Int) - 1) = (d : Int) := by rw [IntKind.wrap_i64]; omega
            have z2 := ((unhide HW5).wk.to q4 hq5.1).blk.frozen 2
            have c2' := ((unhide HW5).wk.to q4 hq5.1).c2
            have HWC : Hid (Ws ((w5.setCell ⟨b, 1, none⟩ (.int .i64 (q4 : Int))).setCell ⟨b, 2, none⟩ (.int .i64 (d1 : Int))) n₀ b s q4 d1 false e2 va vars t2 sv2) := hide ((unhide HW5).next ((grown_setCell w5 ⟨b, 1, none⟩ _).trans (grown_setCell _ ⟨b, 2, none⟩ _)) (((unhide HW5).wk.to q4 hq5.1).dead d1) (by omega) (by omega))
            have BC : Hid (Below b w ((w5.setCell ⟨b, 1, none⟩ (.int .i64 (q4 : Int))).setCell ⟨b, 2, none⟩ (.int .i64 (d1 : Int)))) := hide ((unhide B5).trans (below_some ((grown_setCell w5 ⟨b, 1, none⟩ _).trans (grown_setCell _ ⟨b, 2, none⟩ _)) (Nat.le_of_lt (unhide HW5).wk.blk.lt)))
            have HD1 := hide hd1e
            clear hd1e
            go_wp2_with fail
            refine (unhide HC2 _ n₀ b s q4 d1 e2 va vars t2 sv2 (unhide HWC) hq5.2.2.2).mono ?_
            rintro en w8 ⟨b8, n8, rfl, hn8, p8, e8, t8, sv8, hp8, hr8⟩
            rw [hd5] at hr8
            obtain ⟨f8, HW8, HY8⟩ : ∃ f8, Hid (Ws w8 n₀ b s p8 d1 f8 e8 va vars t8 sv8) ∧ Hid (if f8 = true then DC r3 = none else ∃ z r4, DC r3 = some (z, r4) ∧ s.data.toList.drop p8 = r4 ∧ Ev vars z (liveB d1 false e2) e2 t2 n8 e8 t8) := by
              rcases hq8 : DC r3 with _ | ⟨z, r4⟩
              · rw [hq8] at hr8
                exact ⟨true, hide hr8, hide rfl⟩
              · rw [hq8] at hr8
                exact ⟨false, hide hr8.1, hide ⟨z, r4, rfl, hr8.2.1, hr8.2.2⟩⟩
            have B8 := hide b8
            have v2 := (unhide HW8).wk.c2
            have u2 := (unhide HW8).wk.blk.frozen 2
            clear hr8 b8 hn8 x1 x3 y1 y3 z2 c2'
            go_wp2
            go_ret
            refine ⟨((unhide BC).trans (unhide B8)).trans (below_some (grown_setCell w8 ⟨b, 2, none⟩ _) (Nat.le_of_lt (unhide HW8).wk.blk.lt)), ay, rfl, unhide HAY, p8, e8, t8, sv8, by omega, ?_⟩
            rw [unhide HDC]
            have hws9 := (unhide HW8).next (grown_setCell w8 ⟨b, 2, none⟩ (.int .i64 (d : Int))) ((unhide HW8).wk.dead d) (Nat.le_refl _) (by omega)
            have hy8 := unhide HY8
            cases f8
            · obtain ⟨z, r4, hz, hdz, hez⟩ := hy8
              rw [hz]
              refine ⟨hws9, hdz, ?_⟩
              rw [unhide HD1] at hez
              exact Ev.choice1 hc0 (unhide HEV) (unhide HEV3) hez
            · rw [show DC r3 = none from hy8]
              exact hws9
          · have hby' : (byteA (sk r2) 0 == 58) = false := by rw [beq_eq_false_iff_ne]; exact hby
            rw [ht] at hdc
            have HDC := hide hdc
            clear ht hby hdc
            go_wp2_with fail
            refine (unhide HSG5).mono ?_
            rintro en w6 ⟨rfl, hw6⟩
            have hw7 := hw6.symm
            subst hw7
            clear hw6
            go_wp2
            go_ret
            refine ⟨(unhide B5).trans (below_some (grown_setCell w5 ⟨b, 3, none⟩ _) (Nat.le_of_lt (unhide HW5).wk.blk.lt)), 0, rfl, ⟨by decide, by decide⟩, p4, e2, t2, sv2, by omega, ?_⟩
            rw [unhide HDC]
            exact (unhide HW5).next (grown_setCell w5 ⟨b, 3, none⟩ _) (unhide HW5).wk.bad (Nat.le_refl _) (unhide HW5).dle
    · have hby' : (byteA (sk r) 0 == 63) = false := by rw [beq_eq_false_iff_ne]; exact hby
      rw [ht] at hdc
      have HDC := hide hdc
      have HDR := hide hdr
      clear ht hby hdc hdr
      go_wp2_with fail
      refine (unhide HSG).mono ?_
      rintro en w3 ⟨rfl, hw3⟩
      have hw4 := hw3.symm
      subst hw4
      clear hw3
      go_wp2
      go_ret
      refine ⟨unhide B2, c, rfl, unhide HCI, p2, e1, t1, sv1, by omega, ?_⟩
      rw [unhide HDC]
      exact ⟨unhide HW2, unhide HDR, unhide HEV⟩

end Go.Proofs.YtlbpeknncakfeaaGreatDoor

/- What stands ahead of an operand, names and numbers: plainly. -/
namespace Go.Proofs.YtlbpeknncakfeaaGreatDoor
open Go.RowKit Go.Maps

theorem inv_eq {n : Int} (h : I64 n) : bits BinOp.xor IntKind.i64 (-1) n = -n - 1 := by
  obtain ⟨h1, h2⟩ := h
  unfold bits
  show IntKind.i64.wrap ((BitVec.ofInt 64 (-1) ^^^ BitVec.ofInt 64 n).toNat : Int) = _
  rw [show BitVec.ofInt 64 (-1) = BitVec.allOnes 64 by decide, BitVec.allOnes_xor, BitVec.toNat_not, BitVec.toNat_ofInt, IntKind.wrap_i64]
  omega
theorem sign_all : ∀ x : Fin 256, (match findSign [UInt8.ofNat x.val] with
    | some f => ((x.val == 43) && (f == 81)) || ((x.val == 45) && (f == 82)) || ((x.val == 33) && (f == 83)) || ((x.val == 126) && (f == 84))
    | none => !(x.val == 43) && !(x.val == 45) && !(x.val == 33) && !(x.val == 126)) = true := by decide +kernel
theorem sign_some {c : UInt8} {f : Nat} (h : findSign [c] = some f) : (c = 43 ∧ f = 81) ∨ (c = 45 ∧ f = 82) ∨ (c = 33 ∧ f = 83) ∨ (c = 126 ∧ f = 84) := by
  have h1 := sign_all ⟨c.toNat, c.toNat_lt⟩
  rw [show UInt8.ofNat (⟨c.toNat, c.toNat_lt⟩ : Fin 256).val = c by simp, h] at h1
  simp only [Bool.or_eq_true, Bool.and_eq_true, beq_iff_eq] at h1
  have e : ∀ k : UInt8, c.toNat = k.toNat → c = k := fun k hk => UInt8.toNat_inj.1 hk
  rcases h1 with ((h1 | h1) | h1) | h1
  · exact .inl ⟨e 43 h1.1, h1.2⟩
  · exact .inr (.inl ⟨e 45 h1.1, h1.2⟩)
  · exact .inr (.inr (.inl ⟨e 33 h1.1, h1.2⟩))
  · exact .inr (.inr (.inr ⟨e 126 h1.1, h1.2⟩))
theorem sign_none {c : UInt8} (h : findSign [c] = none) : ((c.toNat : Int) == 43) = false ∧ ((c.toNat : Int) == 45) = false ∧ ((c.toNat : Int) == 33) = false ∧ ((c.toNat : Int) == 126) = false := by
  have h1 := sign_all ⟨c.toNat, c.toNat_lt⟩
  rw [show UInt8.ofNat (⟨c.toNat, c.toNat_lt⟩ : Fin 256).val = c by simp, h] at h1
  simp only [Bool.and_eq_true, Bool.not_eq_true', beq_eq_false_iff_ne] at h1
  simp only [beq_eq_false_iff_ne]
  omega
theorem not40 {c : UInt8} (h : ¬ c = 40) : ((c.toNat : Int) == 40) = false := by
  rw [beq_eq_false_iff_ne]
  intro e
  exact h (UInt8.toNat_inj.1 (show c.toNat = 40 by omega))

attribute [local irreducible] findOp findSign
theorem DR_sign {l r : List UInt8} {c : UInt8} {f : Nat} (h : sk l = c :: r) (hf : findSign [c] = some f) : DR l = match DR r with
    | none => none
    | some (x, r') => some (.sign f x, r') := by
  rw [DR_eq, h]
  simp only [hf]
  rfl
theorem DR_paren {l r : List UInt8} (h : sk l = 40 :: r) (hf : findSign [40] = none) : DR l = match DE r with
    | none => none
    | some (x, r1) => match tk 41 r1 with
      | none => none
      | some r2 => some (x, r2) := by
  rw [DR_eq, h]
  simp only [hf]
  rw [if_pos trivial]
  rfl
theorem DR_word {l r : List UInt8} {c : UInt8} (h : sk l = c :: r) (hf : findSign [c] = none) (h40 : ¬ c = 40) : DR l = pWord (c :: r) := by
  rw [DR_eq, h]
  simp only [hf]
  rw [if_neg h40]
theorem DR_end {l : List UInt8} (h : sk l = []) : DR l = none := by rw [DR_eq, h]

theorem frontN_no' {l : List UInt8} {c : UInt8} {r : List UInt8} (h : l = c :: r) (ha : alpB (c.toNat : Int) = false) : frontN l = 0 := by
  subst h
  show (if alpB (c.toNat : Int) = true then spanN namB (c :: r) else 0) = 0
  rw [ha]
  rfl
theorem word_num {c : UInt8} {r : List UInt8} (h : alpB (c.toNat : Int) = false) : pWord (c :: r) = match rnumW (BA (wordL (c :: r))) with
    | some u => if u = 9223372036854775808 then none else some (.num u, (c :: r).drop (spanN namB (c :: r)))
    | none => none := by
  have hn : nameB (BA (wordL (c :: r))) = false := by
    unfold nameB
    rw [BA_size, BA_list]
    rcases hw : wordL (c :: r) with _ | ⟨x, t⟩
    · rfl
    · have hx : x = c := by
        unfold wordL at hw
        cases hs : spanN namB (c :: r) with
        | zero => rw [hs] at hw; cases hw
        | succ k => rw [hs] at hw; simp at hw; exact hw.1.symm
      rw [frontN_no' rfl (by rw [hx]; exact h)]
      simp
      omega
  unfold pWord
  rw [hn, if_neg (by decide), rnumW_eq]
  rcases hv : numW (BA (wordL (c :: r))) with _ | v
  · rfl
  · have hv0 := numW_nonneg hv
    by_cases h1 : v ≤ 9223372036854775807
    · rw [show atMost 9223372036854775807 (some v) = some v from if_pos h1, show atMost 9223372036854775808 (some v) = some v from if_pos (by omega)]
      simp only []
      rw [if_neg (by omega)]
    · rw [show atMost 9223372036854775807 (some v) = none from if_neg h1]
      by_cases h2 : v ≤ 9223372036854775808
      · rw [show atMost 9223372036854775808 (some v) = some v from if_pos h2]
        simp only []
        rw [if_pos (by omega)]
      · rw [show atMost 9223372036854775808 (some v) = none from if_neg h2]
theorem rnumW_range {t : ByteArray} {u : Int} (h : rnumW t = some u) : 0 ≤ u ∧ u ≤ 9223372036854775808 := by
  rw [rnumW_eq] at h
  obtain ⟨h1, h2⟩ := atMost_some h
  exact ⟨numW_nonneg h1, h2⟩

theorem Ev.name {vars : Pairs} {nm : List UInt8} {e : Int} {sets : Pairs} : match rvalS (BA (findV (sets.reverse ++ vars) nm)) with
    | some n => Ev vars (.name nm) true e sets n 0 sets ∧ I64 n
    | none => ∀ n, Ev vars (.name nm) true e sets n 10 sets := by
  rw [valS_eq]
  rcases hv : valS (BA (findV (sets.reverse ++ vars) nm)) with _ | n
  · intro n
    refine Ev.of_err ?_ (by decide)
    rw [evalR, askR, hv]
  · refine ⟨Ev.of_ok ?_, valS_i64 hv⟩
    rw [evalR, askR, hv]

theorem out_bad {w w' : World} {n₀ b : Nat} {s : ByteArray} {p d p' : Nat} {e e' : Int} {va : Value} {vars sets sets' : Pairs} {sv' : Value} {r : Option (E × List UInt8)} (hb : Below b w w') (hp : p ≤ p') (hw : Ws w' n₀ b s p' d true e' va vars sets' sv') (hr : r = none) (n : Int) (hn : I64 n) : Out w n₀ b s p d e va vars sets r (.returned (.int .i64 n)) w' := by
  subst hr
  exact ⟨hb, n, rfl, hn, p', e', sets', sv', hp, hw⟩
theorem out_ok {w w' : World} {n₀ b : Nat} {s : ByteArray} {p d p' : Nat} {e e' : Int} {va : Value} {vars sets sets' : Pairs} {sv' : Value} {r : Option (E × List UInt8)} {x : E} {rest : List UInt8} {n : Int} (hb : Below b w w') (hp : p ≤ p') (hw : Ws w' n₀ b s p' d false e' va vars sets' sv') (hd : s.data.toList.drop p' = rest) (hr : r = some (x, rest)) (hn : I64 n) (hev : Ev vars x (liveB d false e) e sets n e' sets') : Out w n₀ b s p d e va vars sets r (.returned (.int .i64 n)) w' := by
  subst hr
  exact ⟨hb, n, rfl, hn, p', e', sets', sv', hp, hw, hd, hev⟩

end Go.Proofs.YtlbpeknncakfeaaGreatDoor

/- The document's 'operand': a name, a number. -/
namespace Go.Proofs.YtlbpeknncakfeaaGreatDoor
open Go.RowKit Go.Maps
attribute [local irreducible] findOp findSign

theorem span_at (m : List UInt8) (q : Nat) (hq : q ≤ spanN namB m) : (q < spanN namB m → q < m.length ∧ namB (byteA m q) = true) ∧ (q = spanN namB m → namB (byteA m q) = false) := by
  induction m generalizing q with
  | nil =>
    refine ⟨fun h => ?_, fun _ => rfl⟩
    simp [spanN] at h
  | cons c m ih =>
    rw [spanN_cons] at hq ⊢
    by_cases hc : namB (c.toNat : Int) = true
    · rw [if_pos hc] at hq ⊢
      rcases q with _ | q
      · exact ⟨fun _ => ⟨by simp, hc⟩, fun h => by omega⟩
      · obtain ⟨h1, h2⟩ := ih q (by omega)
        refine ⟨fun h => ?_, fun h => h2 (by omega)⟩
        have := h1 (by omega)
        exact ⟨by simp; omega, this.2⟩
    · rw [if_neg hc] at hq ⊢
      obtain rfl : q = 0 := by omega
      exact ⟨fun h => by omega, fun _ => by show namB (c.toNat : Int) = false; simpa using hc⟩
theorem extract_end (s : ByteArray) (p : Nat) : s.extract p s.size = BA (s.data.toList.drop p) := by
  unfold BA
  apply ByteArray.ext
  rw [ByteArray.data_extract]
  apply Array.ext'
  simp
  rw [List.take_of_length_le (by simp)]

set_option maxRecDepth 20000 in
set_option maxHeartbeats 16000000 in
theorem operand_name (w : World) (n₀ b : Nat) (s : ByteArray) (p d : Nat) (e : Int) (va : Value) (vars sets : Pairs) (sv : Value) (h : Ws w n₀ b s p d false e va vars sets sv) (c : UInt8) (r : List UInt8) (hm : sk (s.data.toList.drop p) = c :: r) (ha : alpB (c.toNat : Int) = true) :
    Calls Tryz.prog 118 #[.pointer (some ⟨b, 0, none⟩)] w fun en w' => Out w n₀ b s p d e va vars sets (DR (s.data.toList.drop p)) en w' := by
  have hal := alp_facts ha
  obtain ⟨s1, s2, s3, s4⟩ := sign_none hal.2.1
  have s5 := not40 hal.2.2.1
  have hdrq := (DR_word hm hal.2.1 hal.2.2.1).trans (word_name ha)
  have HDR := hide hdrq
  have hfr := frontN_le (c :: r)
  obtain ⟨nn, hnn⟩ : ∃ x, x = frontN (c :: r) := ⟨_, rfl⟩
  rw [← hnn] at hfr
  clear hal hdrq
  have hlen := h.wk.len
  have hple := h.wk.le
  have hdp := h.dle
  have hsk := skp_le hple
  have hdr := drop_skp s p
  obtain ⟨p1, hp1⟩ : ∃ x, x = skp s p := ⟨_, rfl⟩
  have HSK := hide (rskip_any b s p d false e va sv w h.wk)
  rw [← hp1] at HSK hsk hdr
  rw [hm] at hdr
  have HW := hide h
  clear h hp1
  obtain ⟨hlt, hd2⟩ := drop_step hdr
  have hby : sbb s p1 = (c.toNat : Int) := by rw [byteA_at, hdr]; rfl
  go_enter Tryz.func118, Tryz.ntmps118
  go_wp2_with fail
  refine (unhide HSK).mono ?_
  rintro en w1 ⟨rfl, k1, g1⟩
  have c0 := k1.c0
  have c1 := k1.c1
  have c3 := k1.c3
  have HW1 := hide ((unhide HW).next g1 k1 hsk.2 (by omega))
  have B1 := hide (below_some g1 (Nat.le_of_lt (unhide HW).wk.blk.lt))
  have HSG := hide (rsign_any p1 b s p1 d false e va sv w1 k1)
  rw [hby] at HSG
  clear k1 g1
  have hne : ((p1 : Int) == (s.size : Int)) = false := by rw [beq_eq_false_iff_ne]; omega
  go_wp2_with fail
  refine (unhide HSG).mono ?_
  rintro en w2 ⟨rfl, hw2⟩
  have hw3 := hw2.symm
  subst hw3
  clear hw2
  go_wp2_with fail
  go_quiet (fail)
  obtain ⟨wq, hwq⟩ : ∃ x, x = w1.drewN nq := ⟨_, rfl⟩
  have hgq : w1.grownBy wq none := by rw [hwq]; exact grown_drewN w1 nq
  rw [← hwq]
  have HQ := hide ((unhide HW1).next (grown_but hgq _) ((unhide HW1).wk.kept hgq) (Nat.le_refl _) (unhide HW1).dle)
  have BQ := hide ((unhide B1).trans (below_some (grown_but hgq (some b)) (Nat.le_of_lt (unhide HW1).wk.blk.lt)))
  clear hwq hgq c0 c1 c3 hne HW1 B1 HSG HSK
  have c0 := (unhide HQ).wk.c0
  have c1 := (unhide HQ).wk.c1
  have c3 := (unhide HQ).wk.c3
  have z1 := (unhide HQ).wk.blk.frozen 1
  have z3 := (unhide HQ).wk.blk.frozen 3
  have hln : (c :: r).length = s.size - p1 := by
    have := congrArg List.length hdr
    rw [List.length_drop] at this
    simp at this ⊢
    omega
  obtain ⟨q, hq⟩ : ∃ x, x = p1 + nn := ⟨_, rfl⟩
  have hwq : IntKind.i64.wrap ((p1 : Int) + (nn : Int)) = (q : Int) := by rw [IntKind.wrap_i64]; omega
  have hq2 : q ≤ s.size ∧ p ≤ q ∧ d ≤ q ∧ p1 ≤ q := by omega
  have hdq : s.data.toList.drop q = (c :: r).drop (frontN (c :: r)) := by rw [hq, ← List.drop_drop, hdr, hnn]
  have hex : s.extract p1 q = BA (nameOf (c :: r)) := by rw [hq, extract_one, hdr, hnn]; rfl
  have HF : Hid (∀ w, Calls Tryz.prog 45 #[.string (s.extract p1 s.size)] w fun e w' => e = .returned (.int .i64 (nn : Int)) ∧ w' = w) := hide (fun w => by
    have := rfront_any (s.extract p1 s.size) w (by rw [extract_end, hdr, BA_size]; omega)
    rw [extract_end, hdr, BA_list, ← hnn] at this
    rw [extract_end, hdr]
    exact this)
  have HDQ := hide hdq
  have HEX := hide hex
  have HQE := hide hq
  have HNN := hide hnn
  clear hdq hex hq hnn hln hfr hdr hd2 hby
  go_wp2_with fail
  refine (ralpha_any _ _).mono ?_
  rintro en w3 ⟨rfl, hw3⟩
  have hw4 := hw3.symm
  subst hw4
  clear hw3
  rw [ha]
  clear ha s1 s2 s3 s4 s5
  go_wp2_with fail
  go_quiet ((go_at_call 45; exact Calls.quiet_of_same (unhide HF _)))
  obtain ⟨wr, hwr⟩ : ∃ x, x = wq.drewN nq := ⟨_, rfl⟩
  have hgr : wq.grownBy wr none := by rw [hwr]; exact grown_drewN wq nq
  rw [← hwr]
  have HR := hide ((unhide HQ).next (grown_but hgr _) ((unhide HQ).wk.kept hgr) (Nat.le_refl _) (unhide HQ).dle)
  have BR := hide ((unhide BQ).trans (below_some (grown_but hgr (some b)) (Nat.le_of_lt (unhide HQ).wk.blk.lt)))
  clear hwr hgr c0 c1 c3 z1 z3 HQ BQ HF
  have c0 := (unhide HR).wk.c0
  have c1 := (unhide HR).wk.c1
  go_wp2_with fail
  go_quiet (fail)
  obtain ⟨wt, hwt⟩ : ∃ x, x = wr.drewN nq := ⟨_, rfl⟩
  have hgt : wr.grownBy wt none := by rw [hwt]; exact grown_drewN wr nq
  rw [← hwt]
  have HT := hide ((unhide HR).next (grown_but hgt _) ((unhide HR).wk.kept hgt) (Nat.le_refl _) (unhide HR).dle)
  have BT := hide ((unhide BR).trans (below_some (grown_but hgt (some b)) (Nat.le_of_lt (unhide HR).wk.blk.lt)))
  clear hwt hgt c0 c1 HR BR
  have c0 := (unhide HT).wk.c0
  have c1 := (unhide HT).wk.c1
  have z1 := (unhide HT).wk.blk.frozen 1
  have HU : Hid (Ws (wt.setCell ⟨b, 1, none⟩ (.int .i64 (q : Int))) n₀ b s q d false e va vars sets sv) := hide ((unhide HT).next (grown_setCell wt ⟨b, 1, none⟩ _) ((unhide HT).wk.to q hq2.1) (by omega) (by omega))
  have BU := hide ((unhide BT).trans (below_some (grown_setCell wt ⟨b, 1, none⟩ (.int .i64 (q : Int))) (Nat.le_of_lt (unhide HT).wk.blk.lt)))
  rw [unhide HEX]
  go_wp2_with fail
  rcases Bool.eq_false_or_eq_true (liveB d false e) with hl | hl
  · have hev := @Ev.name vars (nameOf (c :: r)) e sets
    refine (rask_any (nameOf (c :: r)) sets vars (wt.setCell ⟨b, 1, none⟩ (.int .i64 (q : Int))).heap.size b s q d false e va sv _ (unhide HU).wk hl ((unhide HU).vrow.mono (by have := (unhide HU).le; have := (unhide HU).wk.blk.lt; omega)) (unhide HU).srow ((unhide HU).find _)).mono ?_
    rintro en w6 ⟨g6, h6⟩
    rcases hv : rvalS (BA (findV (sets.reverse ++ vars) (nameOf (c :: r)))) with _ | n
    · rw [hv] at h6 hev
      obtain ⟨rfl, k6⟩ := h6
      have HE := hide (And.intro g6 (And.intro k6 hev))
      have HL := hide hl
      clear g6 k6 hev hv hl c0 c1 z1
      go_wp2
      go_ret
      exact out_ok ((unhide BU).trans (below_some (unhide HE).1 (Nat.le_of_lt (unhide HU).wk.blk.lt))) (by omega) ((unhide HU).next (unhide HE).1 (unhide HE).2.1 (Nat.le_refl _) (by omega)) (unhide HDQ) (unhide HDR) ⟨by decide, by decide⟩ (by rw [unhide HL]; exact (unhide HE).2.2 0)
    · rw [hv] at h6 hev
      obtain ⟨rfl, k6⟩ := h6
      have HE := hide (And.intro g6 (And.intro k6 hev))
      have HL := hide hl
      clear g6 k6 hev hv hl c0 c1 z1
      go_wp2
      go_ret
      exact out_ok ((unhide BU).trans (below_some (unhide HE).1 (Nat.le_of_lt (unhide HU).wk.blk.lt))) (by omega) ((unhide HU).next (unhide HE).1 (unhide HE).2.1 (Nat.le_refl _) (by omega)) (unhide HDQ) (unhide HDR) (unhide HE).2.2.2 (by rw [unhide HL]; exact (unhide HE).2.2.1)
  · refine (rask_dead (BA (nameOf (c :: r))) b s q d false e va sv _ (unhide HU).wk hl).mono ?_
    rintro en w6 ⟨rfl, hw6⟩
    have hw7 := hw6.symm
    subst hw7
    have HL := hide hl
    clear hw6 hl c0 c1 z1
    go_wp2
    go_ret
    exact out_ok (unhide BU) (by omega) (unhide HU) (unhide HDQ) (unhide HDR) ⟨by decide, by decide⟩ (by rw [unhide HL]; exact Ev.of_dead _ _ _ _ _)

end Go.Proofs.YtlbpeknncakfeaaGreatDoor

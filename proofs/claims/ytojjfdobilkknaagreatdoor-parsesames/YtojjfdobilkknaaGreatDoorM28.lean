/- The parser: pipelines.; The parser: lists.; The parser: lines. -/
import Derived.Test.YtojjfdobilkknaaGreatDoorM27
import Derived.Test.YtojjfdobilkknaaGreatDoorM14
set_option maxRecDepth 20000
set_option maxHeartbeats 8000000
namespace Go.Proofs.YtojjfdobilkknaaGreatDoor
open Go.RowKit Go.Maps
def RdAt (k : Nat) (b : Nat) (mp : Value) (rd : Pz → Cm × Pz) (N : Nat) : Prop := ∀ W s', PzAt W b mp s' → PEnv W → MpAt W b mp → s'.toks.length < N → Reads k b mp rd W s'
theorem Lp.one {α : Type} {K : Kd α} {w W W1 : World} {b : Nat} {mp : Value} {s s1 : Pz} (h : Lp K w W b mp s (.slice none 0 0) []) (hp : PzAt W1 b mp s1) (hf : Fr W W1 b) {x : α} {cs : List Value} (hx : K.rel W1 (New W W1) x cs) : Lp K w (W1.alloc (.cells cs.toArray K.t)) b mp s1 (.slice (some ⟨W1.heap.size, 0, none⟩) 1 1) [x] := by
 have hb : Below W1.heap.size W1 (W1.alloc (.cells cs.toArray K.t)) := (Below.refl _ W1).alloc (ler _) _
 have hsW : w.heap.size ≤ W.heap.size := h.leg.size
 have hcl := K.len hx
 refine ⟨(h.leg.trans (leg_fr hf)).trans (leg_below hb), hp.below hb, (h.env.fr hf h.old).below hb, ⟨[cs], ?_, rfl, fun i y cy hi hc => ?_⟩, h.old, h.lt⟩
 ·have := World.ownsRow_lit (base := w.heap.size) (e := K.t) (size := K.sz) W1 cs.toArray 1 (lee hsW hf.size) (by decide) (by simp [hcl])
  simpa using this
 ·cases i with
  | succ i => simp at hi
  | zero =>
    simp at hi hc
    subst hi hc
    refine ⟨W.heap.size, W1.heap.size, hsW, hb.size, fun g hg => .inr ?_, K.kept hx (fun k hk => heap_alloc_old W1 _ hk.2) (fun k hk => hk)⟩
    have : W1.heap.size = g := by simpa [Value.ownBlock] using hg
    omega
theorem RS.row {α : Type} {K : Kd α} {w W1 W : World} {b nb : Nat} {mp : Value} {t : TypeId} {z : Array Value} {s s' : Pz} {v : Value} {l : List α} (h : RS w W1 b nb mp t z s) (hl : Lp K W1 W b mp s' v l) : RS w W b nb mp t z s' := h.step hl.pz hl.leg.fr
theorem sees_nil {s : Pz} (h : s.toks = []) {t : ByteArray} (ht : t ≠ ⟨#[]⟩) : s.sees [t] = false := by
 have hn : s.next.text = ⟨#[]⟩ := by unfold Pz.next; rw [h]; rfl
 unfold Pz.sees
 simp only [List.any_cons, List.any_nil, Bool.or_false]
 rw [hn]
 exact decide_eq_false (fun e => ht e.symm)
theorem row_sole {W : World} {A : Nat → Prop} {ad : Option Addr} {n cap : Nat} {c : Cm} (h : RowAt Kc W A (.slice ad n cap) [c]) : n = 1 ∧ ∃ g x, ad = some ⟨g, 0, none⟩ ∧ CmAt W A c (CV.l x) ∧ ∀ (j : Nat) (u : Value), (CV.l x)[j]? = some u → W.cell? ⟨g, j, none⟩ = some u := by
 obtain ⟨ad', cap', e, h0 | ⟨g, cur, rfl, hg, hk, hx⟩⟩ := h
 ·cases h0
 ·injection e with e1 e2 e3
  subst e1
  refine ⟨e2, ?_⟩
  obtain ⟨cs, h1, h2⟩ := hx 0 c rfl
  obtain ⟨x, rfl⟩ := CmAt.cv h1
  exact ⟨g, x, rfl, h1, fun j u hu => hk.cell j (by have := h2 j u hu; simpa using this)⟩
theorem row_n {α : Type} {K : Kd α} {W : World} {A : Nat → Prop} {ad : Option Addr} {n cap : Nat} {l : List α} (h : RowAt K W A (.slice ad n cap) l) : n = l.length := by
 obtain ⟨ad', cap', e, _⟩ := h
 injection e
theorem LpA {w W1 W : World} {nb : Nat} (h1 : w.heap.size ≤ W1.heap.size) (h2 : nb < W1.heap.size) : ∀ k, (W1.heap.size ≤ k ∧ k < W.heap.size) → w.heap.size ≤ k ∧ k < W.heap.size ∧ k ≠ nb := fun k hk => ⟨lee h1 hk.1, hk.2, by have := hk.1; omega⟩
theorem pipe_nil {lst : Pz → Cm × Pz} {n : Nat} {s : Pz} (h : s.sees [kBar] = false) : Pz.pipesN lst n s = ([], s) := by
 cases n with
 | zero => rfl
 | succ m => rw [Pz.pipesN, h]; rfl
theorem ppipeline_any (w : World) (b : Nat) (mp : Value) (s : Pz) (H : PzAt w b mp s) (he : PEnv w) (hb : 7 ≤ b) (hm : MpAt w b mp) (lst : Pz → Cm × Pz) (N : Nat) (HC : RdAt 81 b mp (Pz.command lst) N) (hle : ∀ s', (Pz.command lst s').2.toks.length ≤ s'.toks.length) (hN : s.toks.length < N) : Reads 65 b mp (Pz.pipeline lst) w s := by
 have hfew := H.ok.few
 obtain ⟨W1, hW1⟩ : ∃ W1, W1 = w.alloc (.cells #[.int .i64 0, .bool false, .slice none 0 0, .slice none 0 0, .slice none 0 0, .slice none 0 0, .string ⟨#[]⟩, .bool false, .slice none 0 0] 33) := ⟨_, rfl⟩
 obtain ⟨nb, hnb⟩ : ∃ nb, nb = w.heap.size := ⟨_, rfl⟩
 have R1 : Hid (RS w W1 b nb mp 33 #[.int .i64 0, .bool false, .slice none 0 0, .slice none 0 0, .slice none 0 0, .slice none 0 0, .string ⟨#[]⟩, .bool false, .slice none 0 0] s) := hide (by rw [hW1, hnb]; exact rs_begin H he hb)
 have HM : Hid (∀ W, Fr w W b → MpAt W b mp) := hide (fun W h => hm.fr h)
 have HWB : Hid (w.heap.size ≤ W1.heap.size ∧ nb < W1.heap.size) := hide ⟨lee (uh R1).new (lel (uh R1).res.lt), (uh R1).res.lt⟩
 have HW1 := hide hW1
 have HNB := hide hnb
 have HSK := hide (pskip_any W1 b mp s kNot (uh R1).pz)
 obtain ⟨no, hno⟩ : ∃ no, no = s.sees [kNot] := ⟨_, rfl⟩
 rw [← hno] at HSK
 obtain ⟨s1, hs1⟩ : ∃ s1, s1 = s.skips kNot := ⟨_, rfl⟩
 rw [← hs1] at HSK
 have hs1le : s1.toks.length ≤ s.toks.length := by rw [hs1]; exact skips_le _ _
 obtain ⟨R, hR⟩ : ∃ R, R = Pz.pipeline lst s := ⟨_, rfl⟩
 have HR : Hid (R = ((if (Pz.pipesN lst (Pz.command lst s1).2.toks.length (Pz.command lst s1).2).1.isEmpty && !no then (Pz.command lst s1).1 else .mk 2 no [] [] [] ((Pz.command lst s1).1 :: (Pz.pipesN lst (Pz.command lst s1).2.toks.length (Pz.command lst s1).2).1) [] false []), (Pz.pipesN lst (Pz.command lst s1).2.toks.length (Pz.command lst s1).2).2)) := hide (by rw [hR, hs1, hno]; rfl)
 have HCR := hide HC
 have HLE := hide hle
 unfold Reads
 rw [← hR]
 clear hR hs1 hno hW1 hnb H he hm HC hle
 have hsN : s1.toks.length < N := by omega
 have hsF : s1.toks.length ≤ 100000 := by omega
 clear hfew hs1le hN
 go_enter Tryz.func65, Tryz.ntmps65
 go_upto_region 1 with fail
 rw [← uh HW1, ← uh HNB]
 clear HW1 HNB
 go_wp2_with fail
 refine (uh HSK).mono ?_
 rintro e w2 ⟨rfl, p2, f2⟩
 have R2 := hide ((uh R1).step p2 f2)
 have L2 : Hid (Lp Kc W1 w2 b mp s1 (.slice none 0 0) []) := hide ⟨leg_fr f2, p2, (uh R2).env, grows_nil Kc w2 _, hb, (uh R1).pz.lt⟩
 have HCI := hide (uh HCR w2 s1 p2 (uh R2).env (uh HM w2 (uh R2).fr) hsN)
 unfold Reads at HCI
 clear p2 f2 HSK R2
 go_wp2_with fail
 refine (uh HCI).mono ?_
 rintro e w3 ⟨x, rfl, HG⟩
 have HL4 : Hid (Lp Kc W1 (w3.alloc (.cells #[.int .i64 x.k, .bool x.no, .slice x.al x.nl x.cl, .slice x.aw x.nw x.cw, .slice x.ar x.nr x.cr, .slice x.ac x.nc x.cc, .string (BA x.nm), .bool x.ev, .slice x.ai x.ni x.ci] 33)) b mp (Pz.command lst s1).2 (.slice (some ⟨w3.heap.size, 0, none⟩) 1 1) [(Pz.command lst s1).1]) := hide ((uh L2).one (uh HG).pz (uh HG).fr (cs := x.l) (uh HG).cm)
 have hc2 : (Pz.command lst s1).2.toks.length ≤ s1.toks.length := uh HLE s1
 obtain ⟨c1, hc1⟩ : ∃ c1, c1 = (Pz.command lst s1).1 := ⟨_, rfl⟩
 obtain ⟨s2, hs2⟩ : ∃ s2, s2 = (Pz.command lst s1).2 := ⟨_, rfl⟩
 rw [← hc1, ← hs2] at HL4 HR
 rw [← hs2] at hc2
 clear HG HCI L2 hc1 hs2
 go_wp2_with fail
 go_loopg [4] s2.toks.length (fun g x wr => ∃ (s' : Pz) (l : List Cm) (ad : Option Addr) (n cap : Nat), x = .slice ad n cap ∧ s'.toks.length ≤ g ∧ g ≤ s2.toks.length ∧ l.length + g ≤ 100001 ∧ Hid (l ≠ [] ∧ (c1 :: (Pz.pipesN lst s2.toks.length s2).1, (Pz.pipesN lst s2.toks.length s2).2) = (l ++ (Pz.pipesN lst g s').1, (Pz.pipesN lst g s').2) ∧ Lp Kc W1 wr b mp s' (.slice ad n cap) l))
 case atStart => exact ⟨s2, [c1], _, 1, 1, rfl, ler _, ler _, by simp; omega, hide ⟨by simp, rfl, uh HL4⟩⟩
 case round =>
  clear HL4
  obtain ⟨s', l, ad, n, cap, rfl, hg, hg2, hlg, HI⟩ := hrel
  have HSW := hide (pskip_any wr b mp s' kBar (uh HI).2.2.pz)
  cases hs : s'.sees [kBar] with
  | true =>
    have hsk : s'.skips kBar = s'.take := by unfold Pz.skips; rw [hs]; rfl
    rw [hs, hsk] at HSW
    cases gk with
    | zero =>
      rw [sees_nil (List.eq_nil_of_length_eq_zero (by omega)) (by decide)] at hs
      cases hs
    | succ m =>
      have HE : Hid ((c1 :: (Pz.pipesN lst s2.toks.length s2).1, (Pz.pipesN lst s2.toks.length s2).2) = ((l ++ [(Pz.command lst s'.take.gap).1]) ++ (Pz.pipesN lst m (Pz.command lst s'.take.gap).2).1, (Pz.pipesN lst m (Pz.command lst s'.take.gap).2).2)) := hide (by
       rw [(uh HI).2.1, Pz.pipesN, hs]
       simp)
      have hne : s'.toks ≠ [] := fun e => by rw [sees_nil e (by decide)] at hs; cases hs
      have htk := take_less s'
      have hgp := gap_le s'.take
      have hcm : (Pz.command lst s'.take.gap).2.toks.length ≤ s'.take.gap.toks.length := uh HLE _
      have hm1 : s'.take.gap.toks.length ≤ m := by omega
      have hm2 : s'.take.gap.toks.length < N := by omega
      have hm3 : (Pz.command lst s'.take.gap).2.toks.length ≤ m := by omega
      clear hs hsk htk hgp hcm hm1 hne
      go_wp2_with fail
      refine (uh HSW).mono ?_
      rintro e w5 ⟨rfl, p5, f5⟩
      have HGP := hide (pgap_any w5 b mp s'.take p5)
      have L5 : Hid (Lp Kc W1 w5 b mp s'.take (.slice ad n cap) l) := hide ⟨(uh HI).2.2.leg.trans (leg_fr f5), p5, (uh HI).2.2.env.fr f5 hb, (uh HI).2.2.row.fr f5 (uh HI).2.2.lt, hb, (uh HI).2.2.lt⟩
      clear p5 f5 HSW
      go_wp2_with fail
      refine (uh HGP).mono ?_
      rintro e w6 ⟨rfl, p6, f6⟩
      have L6 : Hid (Lp Kc W1 w6 b mp s'.take.gap (.slice ad n cap) l) := hide ⟨(uh L5).leg.trans (leg_fr f6), p6, (uh L5).env.fr f6 hb, (uh L5).row.fr f6 (uh L5).lt, hb, (uh L5).lt⟩
      have HCI := hide (uh HCR w6 s'.take.gap p6 (uh L6).env (uh HM w6 ((uh R1).row (uh L6)).fr) hm2)
      unfold Reads at HCI
      clear p6 f6 HGP L5
      go_wp2_with fail
      refine (uh HCI).mono ?_
      rintro e w7 ⟨x, rfl, HG⟩
      obtain ⟨ad4, n4, cap4, w8, hr, hL8⟩ := (uh L6).add (uh HG).pz (uh HG).fr (x := (Pz.command lst s'.take.gap).1) (cs := x.l) (uh HG).cm 23 (z := .agg #[.int .i64 0, .bool false, .slice none 0 0, .slice none 0 0, .slice none 0 0, .slice none 0 0, .string ⟨#[]⟩, .bool false, .slice none 0 0]) (bytes := 160) (by kernel_rfl) (by kernel_rfl) (by kernel_rfl) (by decide) (by decide) (by omega)
      have HRN := hide hr
      have HL8 := hide hL8
      clear hr hL8 HCI HG
      go_wp2_with (at_builtin; refine wpList_app_run rfl _ _ _ rfl _ _ _ rfl rfl (uh HRN) ?_)
      go_roundg m
      case measure => omega
      case rel => exact ⟨(Pz.command lst s'.take.gap).2, l ++ [(Pz.command lst s'.take.gap).1], ad4, n4, cap4, rfl, hm3, by omega, by simp; omega, hide ⟨by simp, uh HE, uh HL8⟩⟩
  | false =>
    have hsk : s'.skips kBar = s' := by unfold Pz.skips; rw [hs]; rfl
    rw [hs, hsk] at HSW
    have HQ : Hid (c1 :: (Pz.pipesN lst s2.toks.length s2).1 = l ∧ (Pz.pipesN lst s2.toks.length s2).2 = s') := hide (by
     have h := (uh HI).2.1
     rw [pipe_nil hs, List.append_nil] at h
     exact Prod.mk.inj h)
    clear hs hsk HCR HLE
    go_wp2_with fail
    refine (uh HSW).mono ?_
    rintro e w5 ⟨rfl, p5, f5⟩
    have L5 : Hid (Lp Kc W1 w5 b mp s' (.slice ad n cap) l) := hide ⟨(uh HI).2.2.leg.trans (leg_fr f5), p5, (uh HI).2.2.env.fr f5 hb, (uh HI).2.2.row.fr f5 (uh HI).2.2.lt, hb, (uh HI).2.2.lt⟩
    have R5 := hide ((uh R1).row (uh L5))
    have HRW : Hid (RowAt Kc w5 (fun k => W1.heap.size ≤ k ∧ k < w5.heap.size) (.slice ad n cap) l) := hide (uh L5).row.done
    have HZB := hide (uh R5).res
    obtain ⟨z0, z1, z2, z3, z4, z5, z6, z7, z8⟩ := cel9 (uh HZB)
    have zf : ∀ i, w5.frozen? ⟨nb, i, none⟩ = false := fun i => (uh HZB).frozen i
    clear p5 f5 HSW HZB
    by_cases hone : l.length = 1 ∧ no = false
    ·obtain ⟨hl1, rfl⟩ := hone
     obtain ⟨y, rfl⟩ : ∃ y, l = [y] := List.length_eq_one_iff.1 hl1
     obtain ⟨hn1, g, x, hg1, hcm, hcl⟩ := row_sole (uh HRW)
     subst hn1 hg1
     have HCL : Hid (∀ (j : Nat) (u : Value), (CV.l x)[j]? = some u → w5.cell? ⟨g, j, none⟩ = some u) := hide hcl
     have c0 : w5.cell? ⟨g, 0, none⟩ = some (.int .i64 x.k) := uh HCL 0 _ rfl
     have c1 : w5.cell? ⟨g, 1, none⟩ = some (.bool x.no) := uh HCL 1 _ rfl
     have c2 : w5.cell? ⟨g, 2, none⟩ = some (.slice x.al x.nl x.cl) := uh HCL 2 _ rfl
     have c3 : w5.cell? ⟨g, 3, none⟩ = some (.slice x.aw x.nw x.cw) := uh HCL 3 _ rfl
     have c4 : w5.cell? ⟨g, 4, none⟩ = some (.slice x.ar x.nr x.cr) := uh HCL 4 _ rfl
     have c5 : w5.cell? ⟨g, 5, none⟩ = some (.slice x.ac x.nc x.cc) := uh HCL 5 _ rfl
     have c6 : w5.cell? ⟨g, 6, none⟩ = some (.string (BA x.nm)) := uh HCL 6 _ rfl
     have c7 : w5.cell? ⟨g, 7, none⟩ = some (.bool x.ev) := uh HCL 7 _ rfl
     have c8 : w5.cell? ⟨g, 8, none⟩ = some (.slice x.ai x.ni x.ci) := uh HCL 8 _ rfl
     have HFIN := hide ((uh R5).fin hcm (LpA (uh HWB).1 (uh HWB).2))
     have HE : Hid (R = (y, s')) := hide (by
      rw [uh HR, (uh HQ).2]
      have h := (uh HQ).1
      injection h with h1 h2
      rw [h1, h2]
      rfl)
     clear hcl hcm HCL HRW R5 L5 HI HQ HR hl1
     go_wp2
     refine bodyPost_ret (results_cell_row (P := Tryz.prog) rfl _ _ nb 33 _ (0, 0) _ rfl (uh HFIN).1 Tryz.underlying33 rfl (by kernel_rfl)) rfl ⟨x, rfl, hide (by rw [uh HE]; exact (uh HFIN).2)⟩
    ·have HE : Hid (R = (.mk 2 no [] [] [] l [] false [], s')) := hide (by
      rw [uh HR, (uh HQ).2, (uh HQ).1]
      have h := (uh HQ).1
      rw [if_neg]
      intro hx
      rw [Bool.and_eq_true, List.isEmpty_iff] at hx
      rw [hx.1] at h
      rw [← h] at hone
      exact hone ⟨rfl, by simpa using hx.2⟩)
     have hnl := row_n (uh HRW)
     have HFIN := hide ((uh R5).fin (x := ⟨2, no, none, 0, 0, none, 0, 0, none, 0, 0, ad, n, cap, [], false, none, 0, 0⟩) (CmAt.of (k := 2) (no := no) (name := []) (ev := false) (nilrow _ _ _) (nilrow _ _ _) (nilrow _ _ _) (uh HRW) (nilrow _ _ _)) (LpA (uh HWB).1 (uh HWB).2))
     rw [← hnl] at hone
     have hno : (decide ((n : Int) = 1) && !no) = false ∨ True := .inr trivial
     clear HRW R5 L5 HI HQ HR hnl hno
     by_cases hn1 : n = 1
     ·subst hn1
      have hnt : no = true := by
       cases no with
       | true => rfl
       | false => exact absurd ⟨rfl, rfl⟩ hone
      subst hnt
      clear hone
      go_wp2
      refine bodyPost_ret (results_cell_row (P := Tryz.prog) rfl _ _ nb 33 _ (0, 0) _ rfl (uh HFIN).1 Tryz.underlying33 rfl (by kernel_rfl)) rfl ⟨⟨2, true, none, 0, 0, none, 0, 0, none, 0, 0, ad, 1, cap, [], false, none, 0, 0⟩, rfl, hide (by rw [uh HE]; exact (uh HFIN).2)⟩
     ·have hd : ((n : Int) == 1) = false := by simp; omega
      clear hone hn1
      go_wp2
      refine bodyPost_ret (results_cell_row (P := Tryz.prog) rfl _ _ nb 33 _ (0, 0) _ rfl (uh HFIN).1 Tryz.underlying33 rfl (by kernel_rfl)) rfl ⟨⟨2, no, none, 0, 0, none, 0, 0, none, 0, 0, ad, n, cap, [], false, none, 0, 0⟩, rfl, hide (by rw [uh HE]; exact (uh HFIN).2)⟩
theorem ends_nil {s : Pz} (h : s.toks = []) : s.ends = false := by
 unfold Pz.ends
 rw [sees_nil h (by decide), sees_nil h (by decide)]
 rfl
theorem moreN_succ (lst : Pz → Cm × Pz) (n : Nat) (s : Pz) : Pz.moreN lst (n + 1) s = if s.ends then (if s.endS.goesOn then ((Pz.andOr lst s.endS).1 :: (Pz.moreN lst n (Pz.andOr lst s.endS).2).1, (Pz.moreN lst n (Pz.andOr lst s.endS).2).2) else ([], s.endS)) else ([], s) := rfl
theorem endS_lt {s : Pz} (h : s.ends = true) : s.endS.toks.length < s.toks.length := by
 have hne : s.toks ≠ [] := fun e => by rw [ends_nil e] at h; cases h
 have h1 : s.endS = s.take.gap := by unfold Pz.endS; rw [h]; rfl
 rw [h1]
 exact Nat.lt_of_le_of_lt (gap_le _) (take_lt hne)
theorem plist_any (w : World) (b : Nat) (mp : Value) (s : Pz) (H : PzAt w b mp s) (he : PEnv w) (hb : 7 ≤ b) (hm : MpAt w b mp) (lst : Pz → Cm × Pz) (N : Nat) (HC : RdAt 40 b mp (Pz.andOr lst) N) (hle : ∀ s', (Pz.andOr lst s').2.toks.length ≤ s'.toks.length) (hN : s.toks.length < N) : Reads 56 b mp (Pz.listG lst) w s := by
 have hfew := H.ok.few
 obtain ⟨W1, hW1⟩ : ∃ W1, W1 = w.alloc (.cells #[.int .i64 0, .bool false, .slice none 0 0, .slice none 0 0, .slice none 0 0, .slice none 0 0, .string ⟨#[]⟩, .bool false, .slice none 0 0] 33) := ⟨_, rfl⟩
 obtain ⟨nb, hnb⟩ : ∃ nb, nb = w.heap.size := ⟨_, rfl⟩
 have R1 : Hid (RS w W1 b nb mp 33 #[.int .i64 0, .bool false, .slice none 0 0, .slice none 0 0, .slice none 0 0, .slice none 0 0, .string ⟨#[]⟩, .bool false, .slice none 0 0] s) := hide (by rw [hW1, hnb]; exact rs_begin H he hb)
 have HM : Hid (∀ W, Fr w W b → MpAt W b mp) := hide (fun W h => hm.fr h)
 have HWB : Hid (w.heap.size ≤ W1.heap.size ∧ nb < W1.heap.size) := hide ⟨lee (uh R1).new (lel (uh R1).res.lt), (uh R1).res.lt⟩
 have HW1 := hide hW1
 have HNB := hide hnb
 have HGP := hide (pgap_any W1 b mp s (uh R1).pz)
 obtain ⟨s1, hs1⟩ : ∃ s1, s1 = s.gap := ⟨_, rfl⟩
 rw [← hs1] at HGP
 have hs1le : s1.toks.length ≤ s.toks.length := by rw [hs1]; exact gap_le _
 obtain ⟨R, hR⟩ : ∃ R, R = Pz.listG lst s := ⟨_, rfl⟩
 have HR : Hid (R = (seqC ((Pz.andOr lst s1).1 :: (Pz.moreN lst ((Pz.andOr lst s1).2.toks.length + 1) (Pz.andOr lst s1).2).1), (Pz.moreN lst ((Pz.andOr lst s1).2.toks.length + 1) (Pz.andOr lst s1).2).2)) := hide (by rw [hR, hs1]; rfl)
 have HCR := hide HC
 have HLE := hide hle
 unfold Reads
 rw [← hR]
 clear hR hs1 hW1 hnb H he hm HC hle
 have hsN : s1.toks.length < N := by omega
 have hsF : s1.toks.length ≤ 100000 := by omega
 clear hfew hs1le hN
 go_enter Tryz.func56, Tryz.ntmps56
 go_upto_region 1 with fail
 rw [← uh HW1, ← uh HNB]
 clear HW1 HNB
 go_wp2_with fail
 refine (uh HGP).mono ?_
 rintro e w2 ⟨rfl, p2, f2⟩
 have R2 := hide ((uh R1).step p2 f2)
 have L2 : Hid (Lp Kc W1 w2 b mp s1 (.slice none 0 0) []) := hide ⟨leg_fr f2, p2, (uh R2).env, grows_nil Kc w2 _, hb, (uh R1).pz.lt⟩
 have HCI := hide (uh HCR w2 s1 p2 (uh R2).env (uh HM w2 (uh R2).fr) hsN)
 unfold Reads at HCI
 clear p2 f2 HGP R2
 go_wp2_with fail
 refine (uh HCI).mono ?_
 rintro e w3 ⟨x, rfl, HG⟩
 have HL4 : Hid (Lp Kc W1 (w3.alloc (.cells #[.int .i64 x.k, .bool x.no, .slice x.al x.nl x.cl, .slice x.aw x.nw x.cw, .slice x.ar x.nr x.cr, .slice x.ac x.nc x.cc, .string (BA x.nm), .bool x.ev, .slice x.ai x.ni x.ci] 33)) b mp (Pz.andOr lst s1).2 (.slice (some ⟨w3.heap.size, 0, none⟩) 1 1) [(Pz.andOr lst s1).1]) := hide ((uh L2).one (uh HG).pz (uh HG).fr (cs := x.l) (uh HG).cm)
 have hc2 : (Pz.andOr lst s1).2.toks.length ≤ s1.toks.length := uh HLE s1
 obtain ⟨c1, hc1⟩ : ∃ c1, c1 = (Pz.andOr lst s1).1 := ⟨_, rfl⟩
 obtain ⟨s2, hs2⟩ : ∃ s2, s2 = (Pz.andOr lst s1).2 := ⟨_, rfl⟩
 rw [← hc1, ← hs2] at HL4 HR
 rw [← hs2] at hc2
 clear HG HCI L2 hc1 hs2
 go_wp2_with fail
 go_loopg [3] (s2.toks.length + 1) (fun g x wr => ∃ (s' : Pz) (l : List Cm) (ad : Option Addr) (n cap : Nat), x = .slice ad n cap ∧ s'.toks.length < g ∧ g ≤ s2.toks.length + 1 ∧ l.length + g ≤ 100002 ∧ Hid (l ≠ [] ∧ (c1 :: (Pz.moreN lst (s2.toks.length + 1) s2).1, (Pz.moreN lst (s2.toks.length + 1) s2).2) = (l ++ (Pz.moreN lst g s').1, (Pz.moreN lst g s').2) ∧ Lp Kc W1 wr b mp s' (.slice ad n cap) l))
 case atStart => exact ⟨s2, [c1], _, 1, 1, rfl, Nat.lt_succ_self _, ler _, by simp; omega, hide ⟨by simp, rfl, uh HL4⟩⟩
 case round =>
  clear HL4
  obtain ⟨s', l, ad, n, cap, rfl, hg, hg2, hlg, HI⟩ := hrel
  cases gk with
  | zero => omega
  | succ m =>
  have HEN := hide (pend_any wr b mp s' (uh HI).2.2.pz)
  cases hs : s'.ends with
  | true =>
    rw [hs] at HEN
    have hlt := endS_lt hs
    cases hgo : s'.endS.goesOn with
    | true =>
      have HE : Hid ((c1 :: (Pz.moreN lst (s2.toks.length + 1) s2).1, (Pz.moreN lst (s2.toks.length + 1) s2).2) = ((l ++ [(Pz.andOr lst s'.endS).1]) ++ (Pz.moreN lst m (Pz.andOr lst s'.endS).2).1, (Pz.moreN lst m (Pz.andOr lst s'.endS).2).2)) := hide (by
       rw [(uh HI).2.1, moreN_succ lst m s', hs, hgo]
       simp)
      have hcm : (Pz.andOr lst s'.endS).2.toks.length ≤ s'.endS.toks.length := uh HLE _
      have hm2 : s'.endS.toks.length < N := by omega
      have hm3 : (Pz.andOr lst s'.endS).2.toks.length < m := by omega
      clear hs hlt hcm
      go_wp2_with fail
      refine (uh HEN).mono ?_
      rintro e w5 ⟨rfl, p5, f5⟩
      have HGO := hide (pgoesOn_any w5 b mp s'.endS p5)
      rw [hgo] at HGO
      have L5 : Hid (Lp Kc W1 w5 b mp s'.endS (.slice ad n cap) l) := hide ⟨(uh HI).2.2.leg.trans (leg_fr f5), p5, (uh HI).2.2.env.fr f5 hb, (uh HI).2.2.row.fr f5 (uh HI).2.2.lt, hb, (uh HI).2.2.lt⟩
      clear p5 f5 HEN hgo
      go_wp2_with fail
      refine (uh HGO).mono ?_
      rintro e w6 ⟨rfl, b6⟩
      have L6 := hide ((uh L5).below b6)
      have HCI := hide (uh HCR w6 s'.endS (uh L6).pz (uh L6).env (uh HM w6 ((uh R1).row (uh L6)).fr) hm2)
      unfold Reads at HCI
      clear b6 HGO L5
      go_wp2_with fail
      refine (uh HCI).mono ?_
      rintro e w7 ⟨x, rfl, HG⟩
      obtain ⟨ad4, n4, cap4, w8, hr, hL8⟩ := (uh L6).add (uh HG).pz (uh HG).fr (x := (Pz.andOr lst s'.endS).1) (cs := x.l) (uh HG).cm 23 (z := .agg #[.int .i64 0, .bool false, .slice none 0 0, .slice none 0 0, .slice none 0 0, .slice none 0 0, .string ⟨#[]⟩, .bool false, .slice none 0 0]) (bytes := 160) (by kernel_rfl) (by kernel_rfl) (by kernel_rfl) (by decide) (by decide) (by omega)
      have HRN := hide hr
      have HL8 := hide hL8
      clear hr hL8 HCI HG
      go_wp2_with (at_builtin; refine wpList_app_run rfl _ _ _ rfl _ _ _ rfl rfl (uh HRN) ?_)
      go_roundg m
      case measure => omega
      case rel => exact ⟨(Pz.andOr lst s'.endS).2, l ++ [(Pz.andOr lst s'.endS).1], ad4, n4, cap4, rfl, hm3, by omega, by simp; omega, hide ⟨by simp, uh HE, uh HL8⟩⟩
    | false =>
      have HE : Hid (R = (seqC l, s'.endS)) := hide (by
       have h := (uh HI).2.1
       rw [moreN_succ lst m s', hs, hgo] at h
       simp at h
       rw [uh HR, h.1, h.2])
      clear hs hlt HCR HLE HR
      go_wp2_with fail
      refine (uh HEN).mono ?_
      rintro e w5 ⟨rfl, p5, f5⟩
      have HGO := hide (pgoesOn_any w5 b mp s'.endS p5)
      rw [hgo] at HGO
      have L5 : Hid (Lp Kc W1 w5 b mp s'.endS (.slice ad n cap) l) := hide ⟨(uh HI).2.2.leg.trans (leg_fr f5), p5, (uh HI).2.2.env.fr f5 hb, (uh HI).2.2.row.fr f5 (uh HI).2.2.lt, hb, (uh HI).2.2.lt⟩
      clear p5 f5 HEN hgo
      go_wp2_with fail
      refine (uh HGO).mono ?_
      rintro e w6 ⟨rfl, b6⟩
      have L6 := hide ((uh L5).below b6)
      clear b6 HGO L5
      have HSQ := hide (psequence_any w6 (fun k => W1.heap.size ≤ k ∧ k < w6.heap.size) (.slice ad n cap) l (uh HI).1 (uh L6).row.done (fun k hk => hk.2))
      have R6 := hide ((uh R1).row (uh L6))
      clear L6
      go_wp2_with fail
      refine (uh HSQ).mono ?_
      rintro e w7 ⟨x, rfl, HX⟩
      have R7 := hide ((uh R6).below (uh HX).1)
      have HFIN := hide ((uh R7).fin ((uh HX).2.kept (w' := w7) (B := fun k => W1.heap.size ≤ k ∧ k < w7.heap.size) (fun k _ => rfl) (fun k hk => ⟨hk.1, lle hk.2 (uh HX).1.size⟩)) (LpA (uh HWB).1 (uh HWB).2))
      have HZB := hide (uh R7).res
      obtain ⟨z0, z1, z2, z3, z4, z5, z6, z7, z8⟩ := cel9 (uh HZB)
      have zf : ∀ i, w7.frozen? ⟨nb, i, none⟩ = false := fun i => (uh HZB).frozen i
      clear HSQ R6 R7 HX HZB HI
      go_wp2
      refine bodyPost_ret (results_cell_row (P := Tryz.prog) rfl _ _ nb 33 _ (0, 0) _ rfl (uh HFIN).1 Tryz.underlying33 rfl (by kernel_rfl)) rfl ⟨x, rfl, hide (by rw [uh HE]; exact (uh HFIN).2)⟩
  | false =>
   have he5 : s'.endS = s' := by unfold Pz.endS; rw [hs]; rfl
   rw [hs, he5] at HEN
   have HE : Hid (R = (seqC l, s')) := hide (by
    have h := (uh HI).2.1
    rw [moreN_succ lst m s', hs] at h
    simp at h
    rw [uh HR, h.1, h.2])
   clear hs he5 HCR HLE HR
   go_wp2_with fail
   refine (uh HEN).mono ?_
   rintro e w6 ⟨rfl, p6, f6⟩
   have L6 : Hid (Lp Kc W1 w6 b mp s' (.slice ad n cap) l) := hide ⟨(uh HI).2.2.leg.trans (leg_fr f6), p6, (uh HI).2.2.env.fr f6 hb, (uh HI).2.2.row.fr f6 (uh HI).2.2.lt, hb, (uh HI).2.2.lt⟩
   clear p6 f6 HEN
   have HSQ := hide (psequence_any w6 (fun k => W1.heap.size ≤ k ∧ k < w6.heap.size) (.slice ad n cap) l (uh HI).1 (uh L6).row.done (fun k hk => hk.2))
   have R6 := hide ((uh R1).row (uh L6))
   clear L6
   go_wp2_with fail
   refine (uh HSQ).mono ?_
   rintro e w7 ⟨x, rfl, HX⟩
   have R7 := hide ((uh R6).below (uh HX).1)
   have HFIN := hide ((uh R7).fin ((uh HX).2.kept (w' := w7) (B := fun k => W1.heap.size ≤ k ∧ k < w7.heap.size) (fun k _ => rfl) (fun k hk => ⟨hk.1, lle hk.2 (uh HX).1.size⟩)) (LpA (uh HWB).1 (uh HWB).2))
   have HZB := hide (uh R7).res
   obtain ⟨z0, z1, z2, z3, z4, z5, z6, z7, z8⟩ := cel9 (uh HZB)
   have zf : ∀ i, w7.frozen? ⟨nb, i, none⟩ = false := fun i => (uh HZB).frozen i
   clear HSQ R6 R7 HX HZB HI
   go_wp2
   refine bodyPost_ret (results_cell_row (P := Tryz.prog) rfl _ _ nb 33 _ (0, 0) _ rfl (uh HFIN).1 Tryz.underlying33 rfl (by kernel_rfl)) rfl ⟨x, rfl, hide (by rw [uh HE]; exact (uh HFIN).2)⟩
theorem lineN_succ (lst : Pz → Cm × Pz) (n : Nat) (s : Pz) : Pz.lineN lst (n + 1) s = if s.sees [Pz.semi] then (if s.take.more && !s.take.sees [Pz.nl] then ((Pz.andOr lst s.take).1 :: (Pz.lineN lst n (Pz.andOr lst s.take).2).1, (Pz.lineN lst n (Pz.andOr lst s.take).2).2) else ([], s.take)) else ([], s) := rfl
theorem pline_any (w : World) (b : Nat) (mp : Value) (s : Pz) (H : PzAt w b mp s) (he : PEnv w) (hb : 7 ≤ b) (hm : MpAt w b mp) (lst : Pz → Cm × Pz) (N : Nat) (HC : RdAt 40 b mp (Pz.andOr lst) N) (hle : ∀ s', (Pz.andOr lst s').2.toks.length ≤ s'.toks.length) (hN : s.toks.length < N) : Reads 12 b mp (Pz.line lst) w s := by
 have hfew := H.ok.few
 obtain ⟨W1, hW1⟩ : ∃ W1, W1 = w.alloc (.cells #[.int .i64 0, .bool false, .slice none 0 0, .slice none 0 0, .slice none 0 0, .slice none 0 0, .string ⟨#[]⟩, .bool false, .slice none 0 0] 33) := ⟨_, rfl⟩
 obtain ⟨nb, hnb⟩ : ∃ nb, nb = w.heap.size := ⟨_, rfl⟩
 have R1 : Hid (RS w W1 b nb mp 33 #[.int .i64 0, .bool false, .slice none 0 0, .slice none 0 0, .slice none 0 0, .slice none 0 0, .string ⟨#[]⟩, .bool false, .slice none 0 0] s) := hide (by rw [hW1, hnb]; exact rs_begin H he hb)
 have HM : Hid (∀ W, Fr w W b → MpAt W b mp) := hide (fun W h => hm.fr h)
 have HWB : Hid (w.heap.size ≤ W1.heap.size ∧ nb < W1.heap.size) := hide ⟨lee (uh R1).new (lel (uh R1).res.lt), (uh R1).res.lt⟩
 have HW1 := hide hW1
 have HNB := hide hnb
 obtain ⟨R, hR⟩ : ∃ R, R = Pz.line lst s := ⟨_, rfl⟩
 have HR : Hid (R = (seqC ((Pz.andOr lst s).1 :: (Pz.lineN lst ((Pz.andOr lst s).2.toks.length + 1) (Pz.andOr lst s).2).1), (Pz.lineN lst ((Pz.andOr lst s).2.toks.length + 1) (Pz.andOr lst s).2).2.lineEnd)) := hide (by rw [hR]; rfl)
 have HCR := hide HC
 have HLE := hide hle
 have L2 : Hid (Lp Kc W1 W1 b mp s (.slice none 0 0) []) := hide (Lp.start Kc (uh R1).pz (uh R1).env hb)
 have HCI := hide (HC W1 s (uh R1).pz (uh R1).env (uh HM W1 (uh R1).fr) hN)
 unfold Reads at HCI ⊢
 rw [← hR]
 have hsF : s.toks.length ≤ 100000 := hfew
 clear hR hW1 hnb H he hm HC hle hfew
 go_enter Tryz.func12, Tryz.ntmps12
 go_upto_region 1 with fail
 rw [← uh HW1, ← uh HNB]
 clear HW1 HNB
 go_wp2_with fail
 refine (uh HCI).mono ?_
 rintro e w3 ⟨x, rfl, HG⟩
 have HL4 : Hid (Lp Kc W1 (w3.alloc (.cells #[.int .i64 x.k, .bool x.no, .slice x.al x.nl x.cl, .slice x.aw x.nw x.cw, .slice x.ar x.nr x.cr, .slice x.ac x.nc x.cc, .string (BA x.nm), .bool x.ev, .slice x.ai x.ni x.ci] 33)) b mp (Pz.andOr lst s).2 (.slice (some ⟨w3.heap.size, 0, none⟩) 1 1) [(Pz.andOr lst s).1]) := hide ((uh L2).one (uh HG).pz (uh HG).fr (cs := x.l) (uh HG).cm)
 have hc2 : (Pz.andOr lst s).2.toks.length ≤ s.toks.length := uh HLE s
 obtain ⟨c1, hc1⟩ : ∃ c1, c1 = (Pz.andOr lst s).1 := ⟨_, rfl⟩
 obtain ⟨s2, hs2⟩ : ∃ s2, s2 = (Pz.andOr lst s).2 := ⟨_, rfl⟩
 rw [← hc1, ← hs2] at HL4 HR
 rw [← hs2] at hc2
 clear HG HCI L2 hc1 hs2
 go_wp2_with fail
 go_loopg [3] (s2.toks.length + 1) (fun g x wr => ∃ (s' : Pz) (l : List Cm) (ad : Option Addr) (n cap : Nat), x = .slice ad n cap ∧ s'.toks.length < g ∧ g ≤ s2.toks.length + 1 ∧ l.length + g ≤ 100002 ∧ Hid (l ≠ [] ∧ (c1 :: (Pz.lineN lst (s2.toks.length + 1) s2).1, (Pz.lineN lst (s2.toks.length + 1) s2).2) = (l ++ (Pz.lineN lst g s').1, (Pz.lineN lst g s').2) ∧ Lp Kc W1 wr b mp s' (.slice ad n cap) l))
 case atStart => exact ⟨s2, [c1], _, 1, 1, rfl, Nat.lt_succ_self _, ler _, by simp; omega, hide ⟨by simp, rfl, uh HL4⟩⟩
 case round =>
  clear HL4
  obtain ⟨s', l, ad, n, cap, rfl, hg, hg2, hlg, HI⟩ := hrel
  cases gk with
  | zero => omega
  | succ m =>
  have HEN := hide (pskip_any wr b mp s' Pz.semi (uh HI).2.2.pz)
  cases hs : s'.sees [Pz.semi] with
  | true =>
    have hsk : s'.skips Pz.semi = s'.take := by unfold Pz.skips; rw [hs]; rfl
    rw [hs, hsk] at HEN
    have hne : s'.toks ≠ [] := fun e => by rw [sees_nil e (by decide)] at hs; cases hs
    have hlt := take_lt hne
    have HSN : Hid (∀ W, PzAt W b mp s'.take → Calls Tryz.prog 41 #[.pointer (some ⟨b, 0, none⟩), .slice (some ⟨W.heap.size, 0, none⟩) 1 1] (W.alloc (.cells #[.string ⟨#[10]⟩] 9)) fun e w' => e = .returned (.bool (s'.take.sees [Pz.nl])) ∧ Below W.heap.size W w') := hide (fun W h => psees_lit W b mp s'.take [Pz.nl] h (by decide))
    cases hmo : s'.take.more with
    | true =>
      cases hnl : s'.take.sees [Pz.nl] with
      | false =>
        have HE : Hid ((c1 :: (Pz.lineN lst (s2.toks.length + 1) s2).1, (Pz.lineN lst (s2.toks.length + 1) s2).2) = ((l ++ [(Pz.andOr lst s'.take).1]) ++ (Pz.lineN lst m (Pz.andOr lst s'.take).2).1, (Pz.lineN lst m (Pz.andOr lst s'.take).2).2)) := hide (by
         rw [(uh HI).2.1, lineN_succ lst m s', hs, hmo, hnl]
         simp)
        have hcm : (Pz.andOr lst s'.take).2.toks.length ≤ s'.take.toks.length := uh HLE _
        have hm2 : s'.take.toks.length < N := by omega
        have hm3 : (Pz.andOr lst s'.take).2.toks.length < m := by omega
        rw [hnl] at HSN
        clear hs hlt hcm hsk hne hnl
        go_wp2_with fail
        refine (uh HEN).mono ?_
        rintro e w5 ⟨rfl, p5, f5⟩
        have HMO := hide (pmore_any w5 b mp s'.take p5)
        rw [hmo] at HMO
        have L5 : Hid (Lp Kc W1 w5 b mp s'.take (.slice ad n cap) l) := hide ⟨(uh HI).2.2.leg.trans (leg_fr f5), p5, (uh HI).2.2.env.fr f5 hb, (uh HI).2.2.row.fr f5 (uh HI).2.2.lt, hb, (uh HI).2.2.lt⟩
        clear p5 f5 HEN hmo
        go_wp2_with fail
        refine (uh HMO).mono ?_
        rintro e w51 ⟨rfl, hw51⟩
        have hw52 := hw51.symm
        subst hw52
        have HSN2 := hide (uh HSN _ (uh L5).pz)
        clear HMO hw51 HSN
        go_wp2_with fail
        refine (uh HSN2).mono ?_
        rintro e w6 ⟨rfl, b6⟩
        have L6 := hide ((uh L5).below b6)
        have HCI := hide (uh HCR w6 s'.take (uh L6).pz (uh L6).env (uh HM w6 ((uh R1).row (uh L6)).fr) hm2)
        unfold Reads at HCI
        clear b6 HSN2 L5
        go_wp2_with fail
        refine (uh HCI).mono ?_
        rintro e w7 ⟨x, rfl, HG⟩
        obtain ⟨ad4, n4, cap4, w8, hr, hL8⟩ := (uh L6).add (uh HG).pz (uh HG).fr (x := (Pz.andOr lst s'.take).1) (cs := x.l) (uh HG).cm 23 (z := .agg #[.int .i64 0, .bool false, .slice none 0 0, .slice none 0 0, .slice none 0 0, .slice none 0 0, .string ⟨#[]⟩, .bool false, .slice none 0 0]) (bytes := 160) (by kernel_rfl) (by kernel_rfl) (by kernel_rfl) (by decide) (by decide) (by omega)
        have HRN := hide hr
        have HL8 := hide hL8
        clear hr hL8 HCI HG
        go_wp2_with (at_builtin; refine wpList_app_run rfl _ _ _ rfl _ _ _ rfl rfl (uh HRN) ?_)
        go_roundg m
        case measure => omega
        case rel => exact ⟨(Pz.andOr lst s'.take).2, l ++ [(Pz.andOr lst s'.take).1], ad4, n4, cap4, rfl, hm3, by omega, by simp; omega, hide ⟨by simp, uh HE, uh HL8⟩⟩
      | true =>
        have HE : Hid (R = (seqC l, s'.take.lineEnd)) := hide (by
         have h := (uh HI).2.1
         rw [lineN_succ lst m s', hs, hmo, hnl] at h
         simp at h
         rw [uh HR, h.1, h.2])
        rw [hnl] at HSN
        clear hs hlt hsk hne hnl HLE HR
        go_wp2_with fail
        refine (uh HEN).mono ?_
        rintro e w5 ⟨rfl, p5, f5⟩
        have HMO := hide (pmore_any w5 b mp s'.take p5)
        rw [hmo] at HMO
        have L5 : Hid (Lp Kc W1 w5 b mp s'.take (.slice ad n cap) l) := hide ⟨(uh HI).2.2.leg.trans (leg_fr f5), p5, (uh HI).2.2.env.fr f5 hb, (uh HI).2.2.row.fr f5 (uh HI).2.2.lt, hb, (uh HI).2.2.lt⟩
        clear p5 f5 HEN hmo
        go_wp2_with fail
        refine (uh HMO).mono ?_
        rintro e w51 ⟨rfl, hw51⟩
        have hw52 := hw51.symm
        subst hw52
        have HSN2 := hide (uh HSN _ (uh L5).pz)
        clear HMO hw51 HSN
        go_wp2_with fail
        refine (uh HSN2).mono ?_
        rintro e w6 ⟨rfl, b6⟩
        have L6 := hide ((uh L5).below b6)
        clear b6 HSN2 L5
        have HLE2 := hide (plineEnd_any w6 b mp s'.take (uh L6).pz)
        clear HCR
        go_wp2_with fail
        refine (uh HLE2).mono ?_
        rintro e w9 ⟨rfl, p9, f9⟩
        have L9x : Hid (Lp Kc W1 w9 b mp (s'.take).lineEnd (.slice ad n cap) l) := hide ⟨(uh L6).leg.trans (leg_fr f9), p9, (uh L6).env.fr f9 hb, (uh L6).row.fr f9 (uh L6).lt, hb, (uh L6).lt⟩
        clear p9 f9 HLE2 L6
        have HSQ := hide (psequence_any w9 (fun k => W1.heap.size ≤ k ∧ k < w9.heap.size) (.slice ad n cap) l (uh HI).1 (uh L9x).row.done (fun k hk => hk.2))
        have R6 := hide ((uh R1).row (uh L9x))
        clear L9x
        go_wp2_with fail
        refine (uh HSQ).mono ?_
        rintro e w7 ⟨x, rfl, HX⟩
        have R7 := hide ((uh R6).below (uh HX).1)
        have HFIN := hide ((uh R7).fin ((uh HX).2.kept (w' := w7) (B := fun k => W1.heap.size ≤ k ∧ k < w7.heap.size) (fun k _ => rfl) (fun k hk => ⟨hk.1, lle hk.2 (uh HX).1.size⟩)) (LpA (uh HWB).1 (uh HWB).2))
        have HZB := hide (uh R7).res
        obtain ⟨z0, z1, z2, z3, z4, z5, z6, z7, z8⟩ := cel9 (uh HZB)
        have zf : ∀ i, w7.frozen? ⟨nb, i, none⟩ = false := fun i => (uh HZB).frozen i
        clear HSQ R6 R7 HX HZB HI
        go_wp2
        refine bodyPost_ret (results_cell_row (P := Tryz.prog) rfl _ _ nb 33 _ (0, 0) _ rfl (uh HFIN).1 Tryz.underlying33 rfl (by kernel_rfl)) rfl ⟨x, rfl, hide (by rw [uh HE]; exact (uh HFIN).2)⟩
    | false =>
     have HE : Hid (R = (seqC l, s'.take.lineEnd)) := hide (by
      have h := (uh HI).2.1
      rw [lineN_succ lst m s', hs, hmo] at h
      simp at h
      rw [uh HR, h.1, h.2])
     clear hs hlt hsk hne HLE HR HSN
     go_wp2_with fail
     refine (uh HEN).mono ?_
     rintro e w5 ⟨rfl, p5, f5⟩
     have HMO := hide (pmore_any w5 b mp s'.take p5)
     rw [hmo] at HMO
     have L6 : Hid (Lp Kc W1 w5 b mp s'.take (.slice ad n cap) l) := hide ⟨(uh HI).2.2.leg.trans (leg_fr f5), p5, (uh HI).2.2.env.fr f5 hb, (uh HI).2.2.row.fr f5 (uh HI).2.2.lt, hb, (uh HI).2.2.lt⟩
     clear p5 f5 HEN hmo
     go_wp2_with fail
     refine (uh HMO).mono ?_
     rintro e w6 ⟨rfl, hw51⟩
     have hw52 := hw51.symm
     subst hw52
     clear HMO hw51
     have HLE2 := hide (plineEnd_any w5 b mp s'.take (uh L6).pz)
     clear HCR
     go_wp2_with fail
     refine (uh HLE2).mono ?_
     rintro e w9 ⟨rfl, p9, f9⟩
     have L9x : Hid (Lp Kc W1 w9 b mp (s'.take).lineEnd (.slice ad n cap) l) := hide ⟨(uh L6).leg.trans (leg_fr f9), p9, (uh L6).env.fr f9 hb, (uh L6).row.fr f9 (uh L6).lt, hb, (uh L6).lt⟩
     clear p9 f9 HLE2 L6
     have HSQ := hide (psequence_any w9 (fun k => W1.heap.size ≤ k ∧ k < w9.heap.size) (.slice ad n cap) l (uh HI).1 (uh L9x).row.done (fun k hk => hk.2))
     have R6 := hide ((uh R1).row (uh L9x))
     clear L9x
     go_wp2_with fail
     refine (uh HSQ).mono ?_
     rintro e w7 ⟨x, rfl, HX⟩
     have R7 := hide ((uh R6).below (uh HX).1)
     have HFIN := hide ((uh R7).fin ((uh HX).2.kept (w' := w7) (B := fun k => W1.heap.size ≤ k ∧ k < w7.heap.size) (fun k _ => rfl) (fun k hk => ⟨hk.1, lle hk.2 (uh HX).1.size⟩)) (LpA (uh HWB).1 (uh HWB).2))
     have HZB := hide (uh R7).res
     obtain ⟨z0, z1, z2, z3, z4, z5, z6, z7, z8⟩ := cel9 (uh HZB)
     have zf : ∀ i, w7.frozen? ⟨nb, i, none⟩ = false := fun i => (uh HZB).frozen i
     clear HSQ R6 R7 HX HZB HI
     go_wp2
     refine bodyPost_ret (results_cell_row (P := Tryz.prog) rfl _ _ nb 33 _ (0, 0) _ rfl (uh HFIN).1 Tryz.underlying33 rfl (by kernel_rfl)) rfl ⟨x, rfl, hide (by rw [uh HE]; exact (uh HFIN).2)⟩
  | false =>
   have hsk : s'.skips Pz.semi = s' := by unfold Pz.skips; rw [hs]; rfl
   rw [hs, hsk] at HEN
   have HE : Hid (R = (seqC l, s'.lineEnd)) := hide (by
    have h := (uh HI).2.1
    rw [lineN_succ lst m s', hs] at h
    simp at h
    rw [uh HR, h.1, h.2])
   clear hs hsk HLE HR
   go_wp2_with fail
   refine (uh HEN).mono ?_
   rintro e w6 ⟨rfl, p6, f6⟩
   have L6 : Hid (Lp Kc W1 w6 b mp s' (.slice ad n cap) l) := hide ⟨(uh HI).2.2.leg.trans (leg_fr f6), p6, (uh HI).2.2.env.fr f6 hb, (uh HI).2.2.row.fr f6 (uh HI).2.2.lt, hb, (uh HI).2.2.lt⟩
   clear p6 f6 HEN
   have HLE2 := hide (plineEnd_any w6 b mp s' (uh L6).pz)
   clear HCR
   go_wp2_with fail
   refine (uh HLE2).mono ?_
   rintro e w9 ⟨rfl, p9, f9⟩
   have L9x : Hid (Lp Kc W1 w9 b mp (s').lineEnd (.slice ad n cap) l) := hide ⟨(uh L6).leg.trans (leg_fr f9), p9, (uh L6).env.fr f9 hb, (uh L6).row.fr f9 (uh L6).lt, hb, (uh L6).lt⟩
   clear p9 f9 HLE2 L6
   have HSQ := hide (psequence_any w9 (fun k => W1.heap.size ≤ k ∧ k < w9.heap.size) (.slice ad n cap) l (uh HI).1 (uh L9x).row.done (fun k hk => hk.2))
   have R6 := hide ((uh R1).row (uh L9x))
   clear L9x
   go_wp2_with fail
   refine (uh HSQ).mono ?_
   rintro e w7 ⟨x, rfl, HX⟩
   have R7 := hide ((uh R6).below (uh HX).1)
   have HFIN := hide ((uh R7).fin ((uh HX).2.kept (w' := w7) (B := fun k => W1.heap.size ≤ k ∧ k < w7.heap.size) (fun k _ => rfl) (fun k hk => ⟨hk.1, lle hk.2 (uh HX).1.size⟩)) (LpA (uh HWB).1 (uh HWB).2))
   have HZB := hide (uh R7).res
   obtain ⟨z0, z1, z2, z3, z4, z5, z6, z7, z8⟩ := cel9 (uh HZB)
   have zf : ∀ i, w7.frozen? ⟨nb, i, none⟩ = false := fun i => (uh HZB).frozen i
   clear HSQ R6 R7 HX HZB HI
   go_wp2
   refine bodyPost_ret (results_cell_row (P := Tryz.prog) rfl _ _ nb 33 _ (0, 0) _ rfl (uh HFIN).1 Tryz.underlying33 rfl (by kernel_rfl)) rfl ⟨x, rfl, hide (by rw [uh HE]; exact (uh HFIN).2)⟩
end Go.Proofs.YtojjfdobilkknaaGreatDoor

/- The parser: a Case.; The parser, without memory: no reader leaves more tokens than it found, and each keeps the depth.; The parser: all readers of commands, by how many tokens are left. -/
import Derived.Test.YtojjfdobilkknaaGreatDoorM29
import Derived.Test.YtojjfdobilkknaaGreatDoorM14
import Derived.Test.YtojjfdobilkknaaGreatDoorM26
import Derived.Maps.RangeWalk
set_option maxRecDepth 20000
set_option maxHeartbeats 16000000
namespace Go.Proofs.YtojjfdobilkknaaGreatDoor
open Go.RowKit Go.Maps
def choC (vw v : Value) : Array Value := #[.int .i64 12, .bool false, .slice none 0 0, vw, .slice none 0 0, .slice none 0 0, .string ⟨#[]⟩, .bool false, v]
theorem itemsN_succ (lst : Pz → Cm × Pz) (n : Nat) (s : Pz) : Pz.itemsN lst (n + 1) s = if s.sees [kEsac] then ([], s) else if (s.item lst).2.sees [kDsemi] then ((s.item lst).1 :: (Pz.itemsN lst n (s.item lst).2.take.gap).1, (Pz.itemsN lst n (s.item lst).2.take.gap).2) else ([(s.item lst).1], (s.item lst).2) := rfl
theorem item_le {lst : Pz → Cm × Pz} (hle : ∀ s', (lst s').2.toks.length ≤ s'.toks.length) (s : Pz) : (s.item lst).2.toks.length ≤ s.toks.length := by
 have h1 := itS_le s
 have h2 := hle (itS s)
 have : (s.item lst).2 = if (itS s).sees [kDsemi, kEsac] then itS s else (lst (itS s)).2 := by
  unfold Pz.item itS
  simp only
  split <;> rfl
 rw [this]
 split <;> omega
theorem pchoice_any (w : World) (b : Nat) (mp : Value) (s : Pz) (H : PzAt w b mp s) (he : PEnv w) (hb : 7 ≤ b) (hm : MpAt w b mp) (lst : Pz → Cm × Pz) (N : Nat) (HL : LstAt b mp lst N) (hle : ∀ s', (lst s').2.toks.length ≤ s'.toks.length) (hN : s.take.toks.length < N) : Reads 38 b mp (Pz.choice lst) w s := by
 have hfew := H.ok.few
 obtain ⟨W1, hW1⟩ : ∃ W1, W1 = w.alloc (.cells #[.int .i64 0, .bool false, .slice none 0 0, .slice none 0 0, .slice none 0 0, .slice none 0 0, .string ⟨#[]⟩, .bool false, .slice none 0 0] 33) := ⟨_, rfl⟩
 obtain ⟨nb, hnb⟩ : ∃ nb, nb = w.heap.size := ⟨_, rfl⟩
 have R1 : Hid (RS w W1 b nb mp 33 #[.int .i64 0, .bool false, .slice none 0 0, .slice none 0 0, .slice none 0 0, .slice none 0 0, .string ⟨#[]⟩, .bool false, .slice none 0 0] s) := hide (by rw [hW1, hnb]; exact rs_begin H he hb)
 have HM : Hid (∀ W, Fr w W b → MpAt W b mp) := hide (fun W h => hm.fr h)
 have HWB : Hid (w.heap.size ≤ W1.heap.size ∧ nb < W1.heap.size) := hide ⟨lee (uh R1).new (lel (uh R1).res.lt), (uh R1).res.lt⟩
 have HW1 := hide hW1
 have HNB := hide hnb
 have hlt1 : b < W1.heap.size := (uh R1).pz.lt
 have HTK := hide (ptake_any W1 b mp s (uh R1).pz)
 obtain ⟨R, hR⟩ : ∃ R, R = Pz.choice lst s := ⟨_, rfl⟩
 have HIT : Hid (∀ s', (Pz.item lst s').2.toks.length ≤ s'.toks.length) := hide (item_le hle)
 have HIA : Hid (∀ W s', PzAt W b mp s' → PEnv W → MpAt W b mp → (itS s').toks.length < N → Calls Tryz.prog 64 #[.pointer (some ⟨b, 0, none⟩)] W fun e w' => ∃ aw nw cw ab nbb cb, e = .returned (.agg #[.slice aw nw cw, .slice ab nbb cb]) ∧ Hid (Ki.rel w' (New W w') (s'.item lst).1 [.slice aw nw cw, .slice ab nbb cb] ∧ PzAt w' b mp (s'.item lst).2 ∧ Fr W w' b)) := hide (fun W s' h1 h2 h3 h4 => pitem_any W b mp s' h1 h2 hb h3 lst N HL h4)
 have HSN : Hid (∀ W s', PzAt W b mp s' → Calls Tryz.prog 41 #[.pointer (some ⟨b, 0, none⟩), .slice (some ⟨W.heap.size, 0, none⟩) 1 1] (W.alloc (.cells #[.string ⟨#[101, 115, 97, 99]⟩] 9)) fun e w' => e = .returned (.bool (s'.sees [kEsac])) ∧ Below W.heap.size W w') := hide (fun W s' h => psees_lit W b mp s' [kEsac] h (by decide))
 unfold Reads
 have htl := take_less s
 obtain ⟨s1, hs1⟩ : ∃ s1, s1 = s.take := ⟨_, rfl⟩
 rw [← hs1] at HTK hN htl
 have hwl := wordS_less s1
 obtain ⟨s2, hs2⟩ : ∃ s2, s2 = s1.word.2 := ⟨_, rfl⟩
 obtain ⟨x1, hx1⟩ : ∃ x1, x1 = s1.word.1 := ⟨_, rfl⟩
 obtain ⟨s3, hs3⟩ : ∃ s3, s3 = (s2.gap.want kIn).gap := ⟨_, rfl⟩
 have hs3l : s3.toks.length ≤ s2.toks.length := by
  rw [hs3]
  exact lee (gap_le _) (lee (want_le _ _) (gap_le _))
 rw [← hs2] at hwl
 have HR : Hid (R = (.mk 12 false [] [x1] [] [] [] false (Pz.itemsN lst (s3.toks.length + 1) s3).1, (Pz.itemsN lst (s3.toks.length + 1) s3).2.want kEsac)) := hide (by rw [hR, hs3, hs2, hx1, hs1]; rfl)
 rw [← hR]
 obtain ⟨n0, hn0⟩ : ∃ n0, n0 = s3.toks.length + 1 := ⟨_, rfl⟩
 rw [← hn0] at HR
 have hn0N : n0 ≤ N := by omega
 have hn0F : n0 ≤ 100001 := by omega
 have hs3n : s3.toks.length < n0 := by omega
 have HX2 : Hid (s2 = s1.word.2 ∧ x1 = s1.word.1) := hide ⟨hs2, hx1⟩
 have HX3 := hide hs3
 clear hR hs1 hs2 hx1 hs3 hn0 hs3l hwl htl hW1 hnb H he hm HL hle hN hfew
 go_enter Tryz.func38, Tryz.ntmps38
 go_upto_region 1 with fail
 rw [← uh HW1, ← uh HNB]
 clear HW1 HNB
 go_wp2_with fail
 refine (uh HTK).mono ?_
 rintro e w2 ⟨rfl, p2, f2⟩
 have R2 := hide ((uh R1).step p2 f2)
 have L2 : Hid (Lp Kw W1 w2 b mp s1 (.slice none 0 0) []) := hide ⟨leg_fr f2, p2, (uh R2).env, grows_nil Kw w2 _, hb, hlt1⟩
 have HWD := hide (pword_any w2 b mp s1 p2 (uh R2).env.we hb)
 clear p2 f2 HTK R2
 go_wp2_with fail
 refine (uh HWD).mono ?_
 rintro e w3 ⟨v3, rfl, hw3, p3, f3⟩
 rw [← (uh HX2).1] at p3
 rw [← (uh HX2).2] at hw3
 obtain ⟨adv, cv, hv, _⟩ := hw3.len
 subst hv
 obtain ⟨g4, hg4⟩ : ∃ g4, g4 = w3.heap.size := ⟨_, rfl⟩
 obtain ⟨W4, hW4⟩ : ∃ W4, W4 = w3.alloc (.cells #[.slice adv x1.length cv] 36) := ⟨_, rfl⟩
 obtain ⟨ib, hib⟩ : ∃ ib, ib = W4.heap.size := ⟨_, rfl⟩
 obtain ⟨W5, hW5⟩ : ∃ W5, W5 = W4.alloc (.cells #[.int .i64 12, .bool false, .slice none 0 0, .slice (some ⟨g4, 0, none⟩) 1 1, .slice none 0 0, .slice none 0 0, .string ⟨#[]⟩, .bool false, .slice none 0 0] 33) := ⟨_, rfl⟩
 have L4 : Lp Kw W1 W4 b mp s2 (.slice (some ⟨g4, 0, none⟩) 1 1) [x1] := by
  rw [hW4, hg4]
  exact (uh L2).one p3 f3 (x := x1) (cs := [.slice adv x1.length cv]) ⟨_, rfl, hw3⟩
 have hgi : g4 + 1 = ib := by rw [hib, hW4, hg4]; simp
 have b5 : Below W4.heap.size W4 W5 := by rw [hW5]; exact (Below.refl _ W4).alloc (ler _) _
 have hs5 : W5.heap.size = ib + 1 := by rw [hW5, hib]; simp
 have HRW5 : Hid (RowAt Kw W5 (fun k => W1.heap.size ≤ k ∧ k < W5.heap.size ∧ k ≠ ib) (.slice (some ⟨g4, 0, none⟩) 1 1) [x1]) := hide (L4.row.done.kept (fun k hk => b5.block k hk.2) (fun k hk => ⟨hk.1, lle hk.2 b5.size, by have := hk.2; omega⟩))
 have HC5 : Hid (Leg W1.heap.size b W1 W5 ∧ Blk W5 ib 33 (choC (.slice (some ⟨g4, 0, none⟩) 1 1) (.slice none 0 0)) ∧ PzAt W5 b mp s2 ∧ PEnv W5 ∧ W1.heap.size ≤ ib) := hide ⟨L4.leg.trans (leg_below b5), by rw [hW5, hib]; exact Blk.new _ _ _, L4.pz.below b5, L4.env.below b5, by rw [hib]; exact L4.leg.size⟩
 have HGP := hide (pgap_any W5 b mp s2 (uh HC5).2.2.1)
 have HW4 := hide hW4
 have HW5 := hide hW5
 have HG4 := hide hg4
 have HIB := hide hib
 have HGI := hide hgi
 have HS5 := hide hs5
 clear hW4 hW5 hg4 hib L4 hgi p3 f3 hw3 HWD L2 HX2 b5 hs5
 go_upto_region 3 with fail
 rw [← uh HG4, ← uh HW4]
 try rw [← uh HIB]
 try rw [uh HGI]
 rw [← uh HW5]
 clear HG4 HW4 HIB HW5 HGI
 go_wp2_with fail
 refine (uh HGP).mono ?_
 rintro e w6 ⟨rfl, p6, f6⟩
 have HWI := hide (pwant_any w6 b mp s2.gap kIn p6)
 have HF6 := hide f6
 clear p6 f6 HGP
 go_wp2_with fail
 refine (uh HWI).mono ?_
 rintro e w7 ⟨rfl, p7, f7⟩
 have HGP := hide (pgap_any w7 b mp (s2.gap.want kIn) p7)
 have HF7 := hide ((uh HF6).trans' f7)
 clear p7 f7 HWI HF6
 go_wp2_with fail
 refine (uh HGP).mono ?_
 rintro e w8 ⟨rfl, p8, f8⟩
 rw [← uh HX3] at p8
 have f58 : Fr W5 w8 b := (uh HF7).trans' f8
 have HRW8 : Hid (RowAt Kw w8 (fun k => W1.heap.size ≤ k ∧ k < W5.heap.size ∧ k ≠ ib) (.slice (some ⟨g4, 0, none⟩) 1 1) [x1]) := hide ((uh HRW5).kept (fun k hk => f58.block k hk.2.1 (fun e => by omega)) (fun k hk => hk))
 have HW58 : Hid (W5.heap.size ≤ w8.heap.size) := hide f58.size
 have H8 : Hid (Ho Ki 33 (choC (.slice (some ⟨g4, 0, none⟩) 1 1)) W1 w8 w8.heap.size w8 b ib mp s3 (.slice none 0 0) []) := hide (Ho.empty ((uh HC5).1.trans (leg_fr f58)) ((uh HC5).2.1.grownS f58 (fun e => by have := (uh HC5).2.2.2.2; omega)) p8 ((uh HC5).2.2.2.1.fr f58 hb) hb hlt1 (uh HC5).2.2.2.2)
 clear p8 f8 f58 HGP HF7 HX3 HRW5 HC5
 go_wp2_with fail
 go_loopg [16] n0 (fun g v wr => ∃ (s' : Pz) (l : List (List Wd × List Cm)) (ad : Option Addr) (n cap : Nat), s'.toks.length < g ∧ g ≤ n0 ∧ l.length + g ≤ 100001 ∧ Hid (Pz.itemsN lst n0 s3 = (l ++ (Pz.itemsN lst g s').1, (Pz.itemsN lst g s').2) ∧ Ho Ki 33 (choC (.slice (some ⟨g4, 0, none⟩) 1 1)) W1 w8 w8.heap.size wr b ib mp s' (.slice ad n cap) l))
 case atStart => exact ⟨s3, [], none, 0, 0, hs3n, ler _, by simpa using hn0F, hide ⟨by simp, uh H8⟩⟩
 case round =>
  clear H8
  obtain ⟨s', l, ad, n, cap, hg, hg2, hlg, HI⟩ := hrel
  cases gk with
  | zero => omega
  | succ m =>
  have HSE := hide (uh HSN wr s' (uh HI).2.pz)
  cases hs : s'.sees [kEsac] with
  | true =>
    rw [hs] at HSE
    have HE : Hid (R = (.mk 12 false [] [x1] [] [] [] false l, s'.want kEsac)) := hide (by
     rw [uh HR, (uh HI).1, itemsN_succ lst m s', hs]
     simp)
    clear hs HR HIT HIA
    go_wp2_with fail
    refine (uh HSE).mono ?_
    rintro e w9 ⟨rfl, b9⟩
    have H9 := hide ((uh HI).2.below b9)
    clear b9 HSE HI
    have HWT := hide (pwant_any w9 b mp s' kEsac (uh H9).pz)
    go_wp2_with fail
    refine (uh HWT).mono ?_
    rintro e wE ⟨rfl, pE, fE⟩
    have HEE := hide ((uh H9).step pE fE)
    clear pE fE HWT H9
    have RE := hide ((uh R1).step (uh HEE).pz (uh HEE).leg.fr)
    have HFIN := hide ((uh RE).fin (x := ⟨12, false, none, 0, 0, some ⟨g4, 0, none⟩, 1, 1, none, 0, 0, none, 0, 0, [], false, ad, n, cap⟩) (A := fun k => W1.heap.size ≤ k ∧ k < wE.heap.size ∧ k ≠ ib) (CmAt.of (k := 12) (no := false) (name := []) (ev := false) (nilrow _ _ _) ((uh HRW8).kept (fun k hk => (uh HEE).kp k (by have := (uh HW58); omega) (fun e => by omega) hk.2.2) (fun k hk => ⟨hk.1, by have := (uh HEE).fit; have := (uh HW58); omega, hk.2.2⟩)) (nilrow _ _ _) (nilrow _ _ _) ((uh HEE).done.kept (fun _ _ => rfl) (fun k hk => ⟨by have := (uh HEE).bb; omega, hk.2.1, hk.2.2⟩))) (fun k hk => ⟨lee (uh HWB).1 hk.1, hk.2.1, by have := (uh HWB).2; omega⟩))
    have HCB := hide (uh HEE).cb
    have HZB := hide (uh RE).res
    obtain ⟨c0, c1, c2, c3, c4, c5, c6, c7, c8⟩ := cel9 (uh HCB)
    obtain ⟨z0, z1, z2, z3, z4, z5, z6, z7, z8⟩ := cel9 (uh HZB)
    have zf : ∀ i, wE.frozen? ⟨nb, i, none⟩ = false := fun i => (uh HZB).frozen i
    clear HCB HZB HEE RE
    go_wp2
    refine bodyPost_ret (results_cell_row (P := Tryz.prog) rfl _ _ nb 33 _ (0, 0) _ rfl (uh HFIN).1 Tryz.underlying33 rfl (by kernel_rfl)) rfl ⟨⟨12, false, none, 0, 0, some ⟨g4, 0, none⟩, 1, 1, none, 0, 0, none, 0, 0, [], false, ad, n, cap⟩, rfl, hide (by rw [uh HE]; exact (uh HFIN).2)⟩
  | false =>
    rw [hs] at HSE
    have HI2 : Hid (Pz.itemsN lst n0 s3 = (l ++ (Pz.itemsN lst (m + 1) s').1, (Pz.itemsN lst (m + 1) s').2) ∧ Hid (s'.sees [kEsac] = false)) := hide ⟨(uh HI).1, hide hs⟩
    have his := itS_le s'
    have hitN : (itS s').toks.length < N := by omega
    clear hs his
    go_wp2_with fail
    refine (uh HSE).mono ?_
    rintro e w9 ⟨rfl, b9⟩
    have H9 := hide ((uh HI).2.below b9)
    have c4 : w9.cell? ⟨ib, 8, none⟩ = some (.slice ad n cap) := (uh H9).cb.cell 8 rfl
    clear b9 HSE HI
    have HCT : Hid (∀ W, Below w9.heap.size w9 W → Calls Tryz.prog 64 #[.pointer (some ⟨b, 0, none⟩)] W fun e w' => ∃ aw nw cw ab nbb cbb ad4 n4 cap4 w3, e = .returned (.agg #[.slice aw nw cw, .slice ab nbb cbb]) ∧ w'.cell? ⟨ib, 8, none⟩ = some (.slice ad n cap) ∧ (∀ ty, (Builtin.append_ #[31, 31] ty #[.slice ad n cap, .slice (some ⟨w'.heap.size, 0, none⟩) 1 1]).run Tryz.prog (w'.alloc (.cells #[.slice aw nw cw, .slice ab nbb cbb] 59)) = .ok (.slice ad4 n4 cap4) w3) ∧ w3.cell? ⟨ib, 8, none⟩ = some (.slice ad n cap) ∧ w3.frozen? ⟨ib, 8, none⟩ = false ∧ Hid (Ho Ki 33 (choC (.slice (some ⟨g4, 0, none⟩) 1 1)) W1 w8 w8.heap.size (w3.setCell ⟨ib, 8, none⟩ (.slice ad4 n4 cap4)) b ib mp (s'.item lst).2 (.slice ad4 n4 cap4) (l ++ [(s'.item lst).1]))) := hide (fun W hB => by
     have h5 := (uh H9).below hB
     refine (uh HIA W s' h5.pz h5.env (uh HM W ((uh R1).step h5.pz h5.leg.fr).fr) hitN).mono ?_
     rintro e w' ⟨aw, nw, cw, ab, nbb, cbb, e1, e2⟩
     obtain ⟨e2, e3, e4⟩ := uh e2
     obtain ⟨ad4, n4, cap4, w3, r1, r2, r3⟩ := h5.add e3 e4 (x := (s'.item lst).1) (ec := [.slice aw nw cw, .slice ab nbb cbb]) e2 31 (z := .agg #[.slice none 0 0, .slice none 0 0]) (bytes := 48) (by kernel_rfl) (by kernel_rfl) (by kernel_rfl) (by decide) (by decide) (by omega)
     exact ⟨aw, nw, cw, ab, nbb, cbb, ad4, n4, cap4, w3, e1, (h5.step e3 e4).cb.cell 8 rfl, r1, r2.cell 8 rfl, r2.frozen 8, hide (r3 8 rfl)⟩)
    clear H9 HIA hitN
    go_wp2_with fail
    refine wp_region_held_drew (S := fun _ => True) (by kernel_rfl) trivial (fun hHeld => ?_)
    refine tk 0 (v := ?_) ?_ ?_
    rotate_left
    ·intro w hSw; (try dsimp only at hSw); go_simp; (try with_reducible rfl)
    go_frame
    refine tk 2 (v := ?_) ?_ ?_
    rotate_left
    ·intro w hSw; (try dsimp only at hSw); go_simp; (try with_reducible rfl)
    go_frame
    refine wpAnyH_ready (rs := [1, 3]) (by kernel_rfl) (by simp) ?_
    refine AllReadyH.cons rfl (fun KK hKK => ?_) (AllReadyH.cons rfl (fun KK hKK => ?_) AllReadyH.nil)
    focus
     go_simp
     refine hKK.out _ _ trivial (fun hHeld => ?_)
     clear hKK KK
     try go_frame
     refine rd1 3 (fun KK hKK => ?_)
     go_simp
     refine (uh HCT _ (by first | exact Below.refl _ _ | exact below_drew' _ _)).mono ?_
     rintro e w11 ⟨aw, nw, cw, ab, nbb, cbb, ad4, n4, cap4, w12, rfl, d4, hrun, d5, d6, HS8⟩
     have HRUN := hide hrun
     clear hrun
     refine hKK.out _ _ trivial (fun hHeld => ?_)
     clear hKK KK
     try go_frame
     refine rd1 4 (fun KK hKK => ?_)
     go_simp
     have d4b : (w11.alloc (.cells #[.slice aw nw cw, .slice ab nbb cbb] 59)).cell? ⟨ib, 8, none⟩ = some (.slice ad n cap) := cell_alloc d4 _
     refine hKK.out _ _ trivial (fun hHeld => ?_)
     clear hKK KK
     try go_frame
     refine rd1 5 (fun KK hKK => ?_)
     refine step_app_run (by rfl) _ _ _ (by rfl) _ _ _ (by simp [Act.eval]) (by simp [Act.eval]) (uh HRUN) ?_
     refine hKK.out _ _ trivial (fun hHeld => ?_)
     clear hKK KK
     try go_frame
     refine tk 6 (v := ?_) ?_ ?_
     rotate_left
     ·intro w hSw; (try dsimp only at hSw); go_simp; (try with_reducible rfl)
     go_frame
     refine rd1 7 (fun KK hKK => ?_)
     go_simp
     refine hKK.out _ _ trivial (fun hHeld => ?_)
     clear hKK KK
     try go_frame
     clear hHeld
     refine wpAnyH_done (by kernel_rfl) ?_ _
    rotate_left
    focus
     go_simp
     refine (uh HCT _ (by first | exact Below.refl _ _ | exact below_drew' _ _)).mono ?_
     rintro e w11 ⟨aw, nw, cw, ab, nbb, cbb, ad4, n4, cap4, w12, rfl, d4, hrun, d5, d6, HS8⟩
     have HRUN := hide hrun
     clear hrun
     refine hKK.out _ _ trivial (fun hHeld => ?_)
     clear hKK KK
     try go_frame
     refine wpAnyH_ready (rs := [1, 4]) (by kernel_rfl) (by simp) ?_
     refine AllReadyH.cons rfl (fun KK hKK => ?_) (AllReadyH.cons rfl (fun KK hKK => ?_) AllReadyH.nil)
     focus
      go_simp
      refine hKK.out _ _ trivial (fun hHeld => ?_)
      clear hKK KK
      try go_frame
      refine rd1 4 (fun KK hKK => ?_)
      go_simp
      have d4b : (w11.alloc (.cells #[.slice aw nw cw, .slice ab nbb cbb] 59)).cell? ⟨ib, 8, none⟩ = some (.slice ad n cap) := cell_alloc d4 _
      refine hKK.out _ _ trivial (fun hHeld => ?_)
      clear hKK KK
      try go_frame
      refine rd1 5 (fun KK hKK => ?_)
      refine step_app_run (by rfl) _ _ _ (by rfl) _ _ _ (by simp [Act.eval]) (by simp [Act.eval]) (uh HRUN) ?_
      refine hKK.out _ _ trivial (fun hHeld => ?_)
      clear hKK KK
      try go_frame
      refine tk 6 (v := ?_) ?_ ?_
      rotate_left
      ·intro w hSw; (try dsimp only at hSw); go_simp; (try with_reducible rfl)
      go_frame
      refine rd1 7 (fun KK hKK => ?_)
      go_simp
      refine hKK.out _ _ trivial (fun hHeld => ?_)
      clear hKK KK
      try go_frame
      clear hHeld
      refine wpAnyH_done (by kernel_rfl) ?_ _
     rotate_left
     focus
      go_simp
      have d4b : (w11.alloc (.cells #[.slice aw nw cw, .slice ab nbb cbb] 59)).cell? ⟨ib, 8, none⟩ = some (.slice ad n cap) := cell_alloc d4 _
      refine hKK.out _ _ trivial (fun hHeld => ?_)
      clear hKK KK
      try go_frame
      refine rd1 1 (fun KK hKK => ?_)
      go_simp
      refine hKK.out _ _ trivial (fun hHeld => ?_)
      clear hKK KK
      try go_frame
      refine rd1 5 (fun KK hKK => ?_)
      refine step_app_run (by rfl) _ _ _ (by rfl) _ _ _ (by simp [Act.eval]) (by simp [Act.eval]) (uh HRUN) ?_
      refine hKK.out _ _ trivial (fun hHeld => ?_)
      clear hKK KK
      try go_frame
      refine tk 6 (v := ?_) ?_ ?_
      rotate_left
      ·intro w hSw; (try dsimp only at hSw); go_simp; (try with_reducible rfl)
      go_frame
      refine rd1 7 (fun KK hKK => ?_)
      go_simp
      refine hKK.out _ _ trivial (fun hHeld => ?_)
      clear hKK KK
      try go_frame
      clear hHeld
      refine wpAnyH_done (by kernel_rfl) ?_ _
     rotate_left
    rotate_left 2
    all_goals
     clear d4 d4b d5 d6 HCT HRUN c4
     have HSK2 := hide (pskip_any _ b mp (s'.item lst).2 kDsemi (uh HS8).pz)
     cases hds : (s'.item lst).2.sees [kDsemi] with
     | true =>
       have hsk : (s'.item lst).2.skips kDsemi = (s'.item lst).2.take := by unfold Pz.skips; rw [hds]; rfl
       rw [hds, hsk] at HSK2
       have HE : Hid (Pz.itemsN lst n0 s3 = ((l ++ [(s'.item lst).1]) ++ (Pz.itemsN lst m (s'.item lst).2.take.gap).1, (Pz.itemsN lst m (s'.item lst).2.take.gap).2)) := hide (by
        rw [(uh HI2).1, itemsN_succ lst m s', uh (uh HI2).2, hds]
        simp)
       have hne : (s'.item lst).2.toks ≠ [] := fun e => by rw [sees_nil e (by decide)] at hds; cases hds
       have htl := take_lt hne
       have hgp := gap_le (s'.item lst).2.take
       have hit := uh HIT s'
       have hm3 : (s'.item lst).2.take.gap.toks.length < m := by omega
       clear hds hsk hne htl hgp hit HI2
       go_wp2_with fail
       refine (uh HSK2).mono ?_
       rintro e w13 ⟨rfl, p13, f13⟩
       have H13 := hide ((uh HS8).step p13 f13)
       have HGP := hide (pgap_any w13 b mp (s'.item lst).2.take p13)
       clear p13 f13 HSK2 HS8
       go_wp2_with fail
       refine (uh HGP).mono ?_
       rintro e w14 ⟨rfl, p14, f14⟩
       have H14 := hide ((uh H13).step p14 f14)
       clear p14 f14 HGP H13
       go_wp2_with fail
       go_roundg m
       case measure => omega
       case rel => exact ⟨(s'.item lst).2.take.gap, l ++ [(s'.item lst).1], ad4, n4, cap4, hm3, by omega, by simp; omega, hide ⟨uh HE, uh H14⟩⟩
     | false =>
       have hsk : (s'.item lst).2.skips kDsemi = (s'.item lst).2 := by unfold Pz.skips; rw [hds]; rfl
       rw [hds, hsk] at HSK2
       have HE : Hid (R = (.mk 12 false [] [x1] [] [] [] false (l ++ [(s'.item lst).1]), (s'.item lst).2.want kEsac)) := hide (by
        rw [uh HR, (uh HI2).1, itemsN_succ lst m s', uh (uh HI2).2, hds]
        rfl)
       clear hds hsk HI2 HR
       go_wp2_with fail
       refine (uh HSK2).mono ?_
       rintro e w13 ⟨rfl, p13, f13⟩
       have H13 := hide ((uh HS8).step p13 f13)
       clear p13 f13 HSK2 HS8
       have HWT := hide (pwant_any w13 b mp (s'.item lst).2 kEsac (uh H13).pz)
       go_wp2_with fail
       refine (uh HWT).mono ?_
       rintro e wE ⟨rfl, pE, fE⟩
       have HEE := hide ((uh H13).step pE fE)
       clear pE fE HWT H13
       have RE := hide ((uh R1).step (uh HEE).pz (uh HEE).leg.fr)
       have HFIN := hide ((uh RE).fin (x := ⟨12, false, none, 0, 0, some ⟨g4, 0, none⟩, 1, 1, none, 0, 0, none, 0, 0, [], false, ad4, n4, cap4⟩) (A := fun k => W1.heap.size ≤ k ∧ k < wE.heap.size ∧ k ≠ ib) (CmAt.of (k := 12) (no := false) (name := []) (ev := false) (nilrow _ _ _) ((uh HRW8).kept (fun k hk => (uh HEE).kp k (by have := (uh HW58); omega) (fun e => by omega) hk.2.2) (fun k hk => ⟨hk.1, by have := (uh HEE).fit; have := (uh HW58); omega, hk.2.2⟩)) (nilrow _ _ _) (nilrow _ _ _) ((uh HEE).done.kept (fun _ _ => rfl) (fun k hk => ⟨by have := (uh HEE).bb; omega, hk.2.1, hk.2.2⟩))) (fun k hk => ⟨lee (uh HWB).1 hk.1, hk.2.1, by have := (uh HWB).2; omega⟩))
       have HCB := hide (uh HEE).cb
       have HZB := hide (uh RE).res
       obtain ⟨c0, c1, c2, c3, c4, c5, c6, c7, c8⟩ := cel9 (uh HCB)
       obtain ⟨z0, z1, z2, z3, z4, z5, z6, z7, z8⟩ := cel9 (uh HZB)
       have zf : ∀ i, wE.frozen? ⟨nb, i, none⟩ = false := fun i => (uh HZB).frozen i
       clear HCB HZB HEE RE
       go_wp2
       refine bodyPost_ret (results_cell_row (P := Tryz.prog) rfl _ _ nb 33 _ (0, 0) _ rfl (uh HFIN).1 Tryz.underlying33 rfl (by kernel_rfl)) rfl ⟨⟨12, false, none, 0, 0, some ⟨g4, 0, none⟩, 1, 1, none, 0, 0, none, 0, 0, [], false, ad4, n4, cap4⟩, rfl, hide (by rw [uh HE]; exact (uh HFIN).2)⟩
end Go.Proofs.YtojjfdobilkknaaGreatDoor
namespace Go.Proofs.YtojjfdobilkknaaGreatDoor
def Kw0 (s : Pz) : Prop := s.we = 0 ∨ s.toks = []
def Kp (s s' : Pz) : Prop := s'.toks.length ≤ s.toks.length ∧ s'.deep = s.deep ∧ (Kw0 s → Kw0 s')
theorem Kp.refl (s : Pz) : Kp s s := ⟨ler _, rfl, id⟩
theorem Kp.trans {s t u : Pz} (h : Kp s t) (h2 : Kp t u) : Kp s u := ⟨lee h2.1 h.1, h2.2.1.trans h.2.1, fun k => h2.2.2 (h.2.2 k)⟩
namespace Pz
theorem kp_fail (s : Pz) (e p : Int) : Kp s (s.fail e p) := by
 unfold fail
 split
 ·exact ⟨Nat.zero_le _, rfl, fun _ => .inr rfl⟩
 ·exact .refl s
theorem kp_take (s : Pz) : Kp s s.take := ⟨by unfold take; simp, rfl, fun h => h.elim .inl (fun e => .inr (by unfold take; rw [e]; rfl))⟩
theorem kp_misfit (s : Pz) : Kp s s.misfit := by
 unfold misfit
 split
 ·exact kp_fail _ _ _
 ·split
  ·exact kp_fail _ _ _
  ·exact kp_fail _ _ _
theorem kp_want (s : Pz) (t : ByteArray) : Kp s (s.want t) := by
 unfold want
 split
 ·exact kp_take s
 ·exact kp_misfit s
theorem kp_skips (s : Pz) (t : ByteArray) : Kp s (s.skips t) := by
 unfold skips
 split
 ·exact kp_take s
 ·exact .refl s
theorem kp_gapN : ∀ (n : Nat) (s : Pz), Kp s (gapN n s)
 | 0, s => .refl s
 | n + 1, s => by
   unfold gapN
   split
   ·exact (kp_take s).trans (kp_gapN n _)
   ·exact .refl s
theorem kp_gap (s : Pz) : Kp s s.gap := kp_gapN _ s
theorem kp_endS (s : Pz) : Kp s s.endS := by
 unfold endS
 split
 ·exact (kp_take s).trans (kp_gap _)
 ·exact .refl s
theorem kp_parts (s : Pz) (k : Nat) (t : ByteArray) (p : Int) : Kp s (s.parts k t p).2 := by
 unfold parts
 simp only
 split
 ·exact .refl s
 ·exact kp_fail _ _ _
theorem kp_wantWord (s : Pz) : Kp s s.wantWord.2 := by
 unfold wantWord
 simp only
 split
 ·exact kp_take s
 ·exact (kp_misfit s).trans (kp_take _)
theorem kp_word (s : Pz) : Kp s s.word.2 := (kp_wantWord s).trans (kp_parts _ _ _ _)
theorem kp_number (s : Pz) : Kp s s.number.2 := by
 unfold number
 simp only
 split
 ·exact kp_take s
 ·exact (kp_take s).trans (kp_fail _ _ _)
theorem kp_inPlace (s : Pz) (o : Tok) : Kp s (s.inPlace o).2 := by
 unfold inPlace
 simp only
 split
 ·exact kp_wantWord s
 ·exact (kp_wantWord s).trans (kp_parts _ _ _ _)
theorem kp_redir (s : Pz) : Kp s s.redir.2 := by
 have hk : ∀ s1 : Pz, Kp s s1 → Kp s (if (redirOf s1.next.text).2 = 6 then s1.take.inPlace s1.next else s1.take.word).2 := fun s1 h1 => by
  split
  ·exact (h1.trans (kp_take s1)).trans (kp_inPlace _ _)
  ·exact (h1.trans (kp_take s1)).trans (kp_word _)
 unfold redir
 simp only
 split
 ·exact hk s.number.2 (kp_number s)
 ·exact hk s (.refl s)
theorem kp_redirsN : ∀ (n : Nat) (s : Pz), Kp s (redirsN n s).2
 | 0, s => .refl s
 | n + 1, s => by
   unfold redirsN
   split
   ·exact (kp_redir s).trans (kp_redirsN n _)
   ·exact .refl s
theorem kp_redirs (s : Pz) : Kp s s.redirs.2 := kp_redirsN _ s
theorem kp_wordsN : ∀ (n : Nat) (s : Pz), Kp s (wordsN n s).2
 | 0, s => .refl s
 | n + 1, s => by
   unfold wordsN
   split
   ·exact (kp_word s).trans (kp_wordsN n _)
   ·exact .refl s
theorem kp_words (s : Pz) : Kp s s.words.2 := kp_wordsN _ s
theorem kp_lets (s : Pz) : Kp s s.lets.2 := (kp_take s).trans (kp_parts _ _ _ _)
theorem kp_simpleN : ∀ (n : Nat) (c : Smp) (s : Pz), Kp s (simpleN n c s).2
 | 0, c, s => .refl s
 | n + 1, c, s => by
   unfold simpleN
   split
   ·exact (kp_redir s).trans (kp_simpleN n _ _)
   ·split
    ·exact (kp_lets s).trans (kp_simpleN n _ _)
    ·split
     ·exact (kp_word s).trans (kp_simpleN n _ _)
     ·exact .refl s
theorem kp_simple (s : Pz) : Kp s s.simple.2 := by
 unfold simple
 split
 ·exact kp_simpleN _ _ _
 ·exact kp_misfit s
theorem kp_name (s : Pz) : Kp s s.name.2 := by
 unfold name
 simp only
 split
 ·exact kp_take s
 ·exact (kp_misfit s).trans (kp_take _)
theorem kp_altsN : ∀ (n : Nat) (s : Pz), Kp s (altsN n s).2
 | 0, s => .refl s
 | n + 1, s => by
   unfold altsN
   split
   ·exact ((kp_take s).trans (kp_word _)).trans (kp_altsN n _)
   ·exact .refl s
end Pz
open Pz
theorem kp_lineEnd (s : Pz) : Kp s s.lineEnd := by
 unfold Pz.lineEnd
 split
 ·exact kp_want _ _
 ·exact kp_fail _ _ _
def KR (r : Pz → Cm × Pz) : Prop := ∀ s, Kp s (r s).2
theorem kr_enclosed {lst : Pz → Cm × Pz} (h : KR lst) (k : Int) (c : ByteArray) : KR (Pz.enclosed lst k c) := fun s => ((kp_take s).trans (h _)).trans (kp_want _ _)
theorem kr_branchesN {lst : Pz → Cm × Pz} (h : KR lst) : ∀ n, KR (Pz.branchesN lst n)
 | 0 => fun s => .refl s
 | n + 1 => fun s => by
   have h1 : Kp s (lst ((lst s.take).2.want kThen)).2 := (((kp_take s).trans (h _)).trans (kp_want _ _)).trans (h _)
   unfold Pz.branchesN
   simp only
   split
   ·exact h1.trans (kr_branchesN h n _)
   ·split
    ·exact ((h1.trans (kp_take _)).trans (h _)).trans (kp_want _ _)
    ·exact h1.trans (kp_want _ _)
theorem kr_branches {lst : Pz → Cm × Pz} (h : KR lst) : KR (Pz.branches lst) := fun s => kr_branchesN h _ s
theorem kr_doGroup {lst : Pz → Cm × Pz} (h : KR lst) : KR (Pz.doGroup lst) := fun s => ((kp_want s _).trans (h _)).trans (kp_want _ _)
theorem kr_loop {lst : Pz → Cm × Pz} (h : KR lst) (k : Int) : KR (fun s => Pz.loop lst k s) := fun s => ((kp_take s).trans (h _)).trans (kr_doGroup h _)
theorem kr_each {lst : Pz → Cm × Pz} (h : KR lst) : KR (Pz.each lst) := fun s => by
 have h1 : Kp s ((s.take.name.2.skips semi).gap) := (((kp_take s).trans (kp_name _)).trans (kp_skips _ _)).trans (kp_gap _)
 unfold Pz.each
 simp only
 split
 ·refine Kp.trans ?_ (kr_doGroup h _)
  have h2 := (h1.trans (kp_take _)).trans (kp_words _)
  split
  ·exact h2.trans (kp_endS _)
  ·exact h2.trans (kp_misfit _)
 ·exact h1.trans (kr_doGroup h _)
theorem kp_item {lst : Pz → Cm × Pz} (h : KR lst) (s : Pz) : Kp s (Pz.item lst s).2 := by
 have h1 : Kp s (itS s) := ((((kp_skips s _).trans (kp_word _)).trans (kp_altsN _ _)).trans (kp_want _ _)).trans (kp_gap _)
 have : (Pz.item lst s).2 = if (itS s).sees [kDsemi, kEsac] then itS s else (lst (itS s)).2 := by
  unfold Pz.item itS
  simp only
  split <;> rfl
 rw [this]
 split
 ·exact h1
 ·exact h1.trans (h _)
theorem kp_itemsN {lst : Pz → Cm × Pz} (h : KR lst) : ∀ (n : Nat) (s : Pz), Kp s (Pz.itemsN lst n s).2
 | 0, s => .refl s
 | n + 1, s => by
   rw [itemsN_succ]
   split
   ·exact .refl s
   ·split
    ·exact (((kp_item h s).trans (kp_take _)).trans (kp_gap _)).trans (kp_itemsN h n _)
    ·exact kp_item h s
theorem kr_choice {lst : Pz → Cm × Pz} (h : KR lst) : KR (Pz.choice lst) := fun s => (((((kp_take s).trans (kp_word _)).trans (kp_gap _)).trans (kp_want _ _)).trans (kp_gap _)).trans ((kp_itemsN h _ _).trans (kp_want _ _))
theorem kr_begin {lst : Pz → Cm × Pz} (h : KR lst) {t : ByteArray} {r : Pz → Cm × Pz} (hr : Pz.beginOf lst t = some r) : KR r := by
 unfold Pz.beginOf at hr
 split at hr
 ·injection hr with hr; subst hr; exact kr_enclosed h _ _
 ·split at hr
  ·injection hr with hr; subst hr; exact kr_enclosed h _ _
  ·split at hr
   ·injection hr with hr; subst hr; exact kr_branches h
   ·split at hr
    ·injection hr with hr; subst hr; exact kr_loop h _
    ·split at hr
     ·injection hr with hr; subst hr; exact kr_loop h _
     ·split at hr
      ·injection hr with hr; subst hr; exact kr_each h
      ·split at hr
       ·injection hr with hr; subst hr; exact kr_choice h
       ·cases hr
theorem kr_within {r : Pz → Cm × Pz} (h : KR r) : KR (Pz.within r) := fun s => by
 unfold Pz.within
 split
 ·exact kp_fail _ _ _
 ·have h1 := h { s with deep := s.deep + 1 }
  exact ⟨h1.1, by show (r { s with deep := s.deep + 1 }).2.deep - 1 = s.deep; rw [h1.2.1]; simp, h1.2.2⟩
theorem kr_compound {lst : Pz → Cm × Pz} (h : KR lst) : KR (Pz.compound lst) := fun s => by
 unfold Pz.compound
 split
 ·exact kp_misfit s
 ·rename_i r hr
  exact (kr_within (kr_begin h hr) s).trans (kp_redirs _)
theorem kr_function {lst : Pz → Cm × Pz} (h : KR lst) : KR (Pz.function lst) := fun s => ((((kp_name s).trans (kp_want _ _)).trans (kp_want _ _)).trans (kp_gap _)).trans (kr_compound h _)
theorem kr_command {lst : Pz → Cm × Pz} (h : KR lst) : KR (Pz.command lst) := fun s => by
 unfold Pz.command
 split
 ·exact kr_compound h s
 ·split
  ·exact kp_misfit s
  ·split
   ·exact kr_within (kr_function h) s
   ·exact kp_simple s
theorem kp_pipesN {lst : Pz → Cm × Pz} (h : KR lst) : ∀ (n : Nat) (s : Pz), Kp s (Pz.pipesN lst n s).2
 | 0, s => .refl s
 | n + 1, s => by
   unfold Pz.pipesN
   split
   ·exact (((kp_take s).trans (kp_gap _)).trans (kr_command h _)).trans (kp_pipesN h n _)
   ·exact .refl s
theorem kr_pipeline {lst : Pz → Cm × Pz} (h : KR lst) : KR (Pz.pipeline lst) := fun s => ((kp_skips s _).trans (kr_command h _)).trans (kp_pipesN h _ _)
theorem kp_andOrN {lst : Pz → Cm × Pz} (h : KR lst) : ∀ (n : Nat) (c : Cm) (s : Pz), Kp s (Pz.andOrN lst n c s).2
 | 0, c, s => .refl s
 | n + 1, c, s => by
   rw [andOrN_succ]
   split
   ·exact (((kp_take s).trans (kp_gap _)).trans (kr_pipeline h _)).trans (kp_andOrN h n _ _)
   ·exact .refl s
theorem kr_andOr {lst : Pz → Cm × Pz} (h : KR lst) : KR (Pz.andOr lst) := fun s => (kr_pipeline h s).trans (kp_andOrN h _ _ _)
theorem kp_moreN {lst : Pz → Cm × Pz} (h : KR lst) : ∀ (n : Nat) (s : Pz), Kp s (Pz.moreN lst n s).2
 | 0, s => .refl s
 | n + 1, s => by
   rw [moreN_succ]
   split
   ·split
    ·exact ((kp_endS s).trans (kr_andOr h _)).trans (kp_moreN h n _)
    ·exact kp_endS s
   ·exact .refl s
theorem kr_listG {lst : Pz → Cm × Pz} (h : KR lst) : KR (Pz.listG lst) := fun s => ((kp_gap s).trans (kr_andOr h _)).trans (kp_moreN h _ _)
theorem kp_lineN {lst : Pz → Cm × Pz} (h : KR lst) : ∀ (n : Nat) (s : Pz), Kp s (Pz.lineN lst n s).2
 | 0, s => .refl s
 | n + 1, s => by
   rw [lineN_succ]
   split
   ·split
    ·exact ((kp_take s).trans (kr_andOr h _)).trans (kp_lineN h n _)
    ·exact kp_take s
   ·exact .refl s
theorem kr_list : ∀ n, KR (Pz.list n)
 | 0 => fun s => .refl s
 | n + 1 => kr_listG (kr_list n)
theorem kr_line {lst : Pz → Cm × Pz} (h : KR lst) : KR (Pz.line lst) := fun s => ((kr_andOr h s).trans (kp_lineN h _ _)).trans (kp_lineEnd _)
end Go.Proofs.YtojjfdobilkknaaGreatDoor
namespace Go.Proofs.YtojjfdobilkknaaGreatDoor
open Go.RowKit Go.Maps Pz
theorem begin_toks {lst : Pz → Cm × Pz} {s : Pz} {rr : Pz → Cm × Pz} (h : Pz.beginOf lst s.next.text = some rr) : s.toks ≠ [] := fun e => by
 have hn : s.next.text = ⟨#[]⟩ := by unfold Pz.next; rw [e]; rfl
 rw [hn] at h
 cases h
theorem call_sub (args : Array Value) (W : World) : (callFunc 32 args).run Tryz.prog W = .ok (.enter 32 args) W := by kernel_rfl
theorem call_grp (args : Array Value) (W : World) : (callFunc 33 args).run Tryz.prog W = .ok (.enter 33 args) W := by kernel_rfl
theorem call_brn (args : Array Value) (W : World) : (callFunc 34 args).run Tryz.prog W = .ok (.enter 34 args) W := by kernel_rfl
theorem call_whl (args : Array Value) (W : World) : (callFunc 35 args).run Tryz.prog W = .ok (.enter 35 args) W := by kernel_rfl
theorem call_unt (args : Array Value) (W : World) : (callFunc 36 args).run Tryz.prog W = .ok (.enter 36 args) W := by kernel_rfl
theorem call_eac (args : Array Value) (W : World) : (callFunc 37 args).run Tryz.prog W = .ok (.enter 37 args) W := by kernel_rfl
theorem call_cho (args : Array Value) (W : World) : (callFunc 38 args).run Tryz.prog W = .ok (.enter 38 args) W := by kernel_rfl
theorem call_fun (args : Array Value) (W : World) : (callFunc 102 args).run Tryz.prog W = .ok (.enter 102 args) W := by kernel_rfl
theorem within_of {b : Nat} {mp : Value} (hb : 7 ≤ b) {s : Pz} {rr : Pz → Cm × Pz} (hrr : KR rr) (kk : Nat) (hc : ∀ args W, (callFunc kk args).run Tryz.prog W = .ok (.enter kk args) W) (HR : ∀ W, PzAt W b mp (s.setDeep (s.deep + 1)) → PEnv W → MpAt W b mp → Reads kk b mp rr W (s.setDeep (s.deep + 1))) : ∀ W, PzAt W b mp s → PEnv W → MpAt W b mp → Calls Tryz.prog 101 #[.pointer (some ⟨b, 0, none⟩), .func (.func kk) #[] #[]] W fun e w' => ∃ x : CV, e = .returned (.agg #[.int .i64 x.k, .bool x.no, .slice x.al x.nl x.cl, .slice x.aw x.nw x.cw, .slice x.ar x.nr x.cr, .slice x.ac x.nc x.cc, .string (BA x.nm), .bool x.ev, .slice x.ai x.ni x.ci]) ∧ Hid (Got W w' b mp (Pz.within rr s) x) :=
 fun W h1 h2 h3 => pwithin_any W b mp s h1 h2 hb h3 kk rr hc (hrr (s.setDeep (s.deep + 1))).2.1 HR
theorem pcompound_all {b : Nat} {mp : Value} (hb : 7 ≤ b) {lst : Pz → Cm × Pz} {N : Nat} (HL : LstAt b mp lst N) (hk : KR lst) : RdAt 99 b mp (Pz.compound lst) (N + 1) := fun W s h1 h2 h3 hN => by
 have hle : ∀ s', (lst s').2.toks.length ≤ s'.toks.length := fun s' => (hk s').1
 refine pcompound_any W b mp s h1 h2 hb h3 lst (fun rr hr => ?_) (fun hr => bg_none hr)
 have hne := begin_toks hr
 have htk : (s.setDeep (s.deep + 1)).take.toks.length < N := lle (take_lt (s := s) hne) (by omega)
 have hkr := kr_begin hk hr
 unfold Pz.beginOf at hr
 split at hr
 ·rename_i ht
  injection hr with hr
  subst hr
  exact ⟨_, by rw [ht]; kernel_rfl, within_of hb hkr _ call_sub (fun W a1 a2 a3 => psubshell_any W b mp _ a1 a2 hb a3 lst N HL htk)⟩
 ·split at hr
  ·rename_i ht
   injection hr with hr
   subst hr
   exact ⟨_, by rw [ht]; kernel_rfl, within_of hb hkr _ call_grp (fun W a1 a2 a3 => pgroup_any W b mp _ a1 a2 hb a3 lst N HL htk)⟩
  ·split at hr
   ·rename_i ht
    injection hr with hr
    subst hr
    exact ⟨_, by rw [ht]; kernel_rfl, within_of hb hkr _ call_brn (fun W a1 a2 a3 => pbranches_any b mp hb lst N HL hle _ W _ a1 a2 a3 (ler _) hne (by show s.toks.length ≤ N; omega))⟩
   ·split at hr
    ·rename_i ht
     injection hr with hr
     subst hr
     exact ⟨_, by rw [ht]; kernel_rfl, within_of hb hkr _ call_whl (fun W a1 a2 a3 => pwhile_any W b mp _ a1 a2 hb a3 lst N HL hle htk)⟩
    ·split at hr
     ·rename_i ht
      injection hr with hr
      subst hr
      exact ⟨_, by rw [ht]; kernel_rfl, within_of hb hkr _ call_unt (fun W a1 a2 a3 => puntil_any W b mp _ a1 a2 hb a3 lst N HL hle htk)⟩
     ·split at hr
      ·rename_i ht
       injection hr with hr
       subst hr
       exact ⟨_, by rw [ht]; kernel_rfl, within_of hb hkr _ call_eac (fun W a1 a2 a3 => peach_any W b mp _ a1 a2 hb a3 lst N HL htk)⟩
      ·split at hr
       ·rename_i ht
        injection hr with hr
        subst hr
        exact ⟨_, by rw [ht]; kernel_rfl, within_of hb hkr _ call_cho (fun W a1 a2 a3 => pchoice_any W b mp _ a1 a2 hb a3 lst N HL hle htk)⟩
       ·cases hr
theorem pcommand_all {b : Nat} {mp : Value} (hb : 7 ≤ b) {lst : Pz → Cm × Pz} {N : Nat} (HL : LstAt b mp lst N) (hk : KR lst) : RdAt 81 b mp (Pz.command lst) (N + 1) := fun W s h1 h2 h3 hN =>
 pcommand_any W b mp s h1 h2 hb h3 lst (fun _ W a1 a2 a3 => pcompound_all hb HL hk W s a1 a2 a3 hN)
  (fun _ => within_of hb (kr_function hk) _ call_fun (fun W a1 a2 a3 => pfunction_any W b mp _ a1 a2 hb a3 lst (fun W c1 c2 c3 => pcompound_all hb HL hk W _ c1 c2 c3 (by
   have h5 := ((((kp_name (s.setDeep (s.deep + 1))).trans (kp_want _ kLp)).trans (kp_want _ kRp)).trans (kp_gap _)).1
   have h6 : (s.setDeep (s.deep + 1)).toks.length = s.toks.length := rfl
   omega))))
theorem ppipeline_all {b : Nat} {mp : Value} (hb : 7 ≤ b) {lst : Pz → Cm × Pz} {N : Nat} (HL : LstAt b mp lst N) (hk : KR lst) : RdAt 65 b mp (Pz.pipeline lst) (N + 1) := fun W s h1 h2 h3 hN =>
 ppipeline_any W b mp s h1 h2 hb h3 lst (N + 1) (pcommand_all hb HL hk) (fun s' => (kr_command hk s').1) hN
theorem pandOr_all {b : Nat} {mp : Value} (hb : 7 ≤ b) {lst : Pz → Cm × Pz} {N : Nat} (HL : LstAt b mp lst N) (hk : KR lst) : RdAt 40 b mp (Pz.andOr lst) (N + 1) := fun W s h1 h2 h3 hN =>
 pandOr_any W b mp s h1 h2 hb h3 lst (N + 1) (ppipeline_all hb HL hk) (fun s' => (kr_pipeline hk s').1) hN
theorem plist_all {b : Nat} {mp : Value} (hb : 7 ≤ b) : ∀ n, LstAt b mp (Pz.list n) n
 | 0 => fun _ _ _ _ _ hN => absurd hN (Nat.not_lt_zero _)
 | n + 1 => fun W s h1 h2 h3 hN => plist_any W b mp s h1 h2 hb h3 (Pz.list n) (n + 1) (pandOr_all hb (plist_all hb n) (kr_list n)) (fun s' => (kr_andOr (kr_list n) s').1) hN
theorem pline_all {b : Nat} {mp : Value} (hb : 7 ≤ b) (n : Nat) : RdAt 12 b mp (Pz.line (Pz.list n)) (n + 1) := fun W s h1 h2 h3 hN =>
 pline_any W b mp s h1 h2 hb h3 (Pz.list n) (n + 1) (pandOr_all hb (plist_all hb n) (kr_list n)) (fun s' => (kr_andOr (kr_list n) s').1) hN
end Go.Proofs.YtojjfdobilkknaaGreatDoor

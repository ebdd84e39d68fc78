/- The parser: is a Func's name next?; The parser: If.; The parser: a command. -/
import Derived.Test.YtojjfdobilkknaaGreatDoorM25
import Derived.Test.YtojjfdobilkknaaGreatDoorM14
import Derived.Maps.RangeWalk
set_option maxRecDepth 20000
set_option maxHeartbeats 8000000
namespace Go.Proofs.YtojjfdobilkknaaGreatDoor
open Go.RowKit
theorem pseesFunc_any (w : World) (b : Nat) (mp : Value) (s : Pz) (H : PzAt w b mp s) : Calls Tryz.prog 100 #[.pointer (some ⟨b, 0, none⟩)] w fun e w' => e = .returned (.bool s.seesFunc) ∧ Below w.heap.size w w' := by
 obtain ⟨l, hl⟩ : ∃ l, l = s.next.text.data.toList := ⟨_, rfl⟩
 have htx : s.next.text = BA l := by rw [hl]; exact (BA_of _).symm
 have hlen : l.length ≤ 100000 := by rw [hl, data_len]; exact H.ok.next.1
 have HNX := hide (pnext_any w b mp s H)
 unfold Tok.cells at HNX
 rw [htx] at HNX
 have hfd : ∀ W, (Instr.field 74 (.agg #[.int .i64 s.next.kind, .string (BA l), .int .i64 s.next.pos, .string s.next.body, .bool s.next.raw]) 1).run Tryz.prog W = .ok (.string (BA l)) W := fun W => by kernel_rfl
 have HNM := hide (fun W => cname_any (BA l) W (by simpa using hlen))
 change Hid (∀ W, Calls _ _ _ W fun e w' => e = .returned (.bool (isName l)) ∧ w' = W) at HNM
 obtain ⟨q, hq⟩ : ∃ q, q = s.seesFunc := ⟨_, rfl⟩
 rw [← hq]
 unfold Pz.seesFunc at hq
 rw [← hl] at hq
 cases hn : isName l with
 | false =>
   rw [hn] at HNM hq
   have hq2 : q = false := by rw [hq]; rfl
   subst hq2
   clear hq H hl htx hn
   go_enter Tryz.func100, Tryz.ntmps100
   go_wp2_with fail
   refine (uh HNX).mono ?_
   rintro e w2 ⟨rfl, b2⟩
   have HB := hide b2
   clear b2
   go_wp2_with fail
   refine (uh HNM w2).mono ?_
   rintro e w3 ⟨rfl, hw3⟩
   have hw4 := hw3.symm
   subst hw4
   clear hw3
   go_wp2
   go_ret
   exact ⟨rfl, uh HB⟩
 | true =>
   rw [hn] at HNM hq
   have HPZ : Hid (∀ W, Below w.heap.size w W → PzAt W b mp s) := hide (fun W h => H.below h)
   clear H hl htx hn
   match hts : s.toks with
   | [] =>
     rw [hts] at hq
     have hq2 : q = false := by rw [hq]; rfl
     subst hq2
     clear hq
     go_enter Tryz.func100, Tryz.ntmps100
     go_wp2_with fail
     refine (uh HNX).mono ?_
     rintro e w2 ⟨rfl, b2⟩
     obtain ⟨v, h1, ad, cap, hv, hcap, _, _⟩ := (uh HPZ w2 b2).lies
     rw [hts] at hv hcap
     subst hv
     have c0 : w2.cell? ⟨b, 0, none⟩ = some (.slice ad 0 cap) := h1.cell 0 rfl
     have HB := hide b2
     clear b2 h1 hcap hts
     go_wp2_with fail
     refine (uh HNM w2).mono ?_
     rintro e w3 ⟨rfl, hw3⟩
     have hw4 := hw3.symm
     subst hw4
     clear hw3
     go_wp2
     go_ret
     exact ⟨rfl, uh HB⟩
   | [t] =>
     rw [hts] at hq
     have hq2 : q = false := by rw [hq]; rfl
     subst hq2
     clear hq
     go_enter Tryz.func100, Tryz.ntmps100
     go_wp2_with fail
     refine (uh HNX).mono ?_
     rintro e w2 ⟨rfl, b2⟩
     obtain ⟨v, h1, ad, cap, hv, hcap, _, _⟩ := (uh HPZ w2 b2).lies
     rw [hts] at hv hcap
     subst hv
     have c0 : w2.cell? ⟨b, 0, none⟩ = some (.slice ad 1 cap) := h1.cell 0 rfl
     have HB := hide b2
     clear b2 h1 hcap hts
     go_wp2_with fail
     refine (uh HNM w2).mono ?_
     rintro e w3 ⟨rfl, hw3⟩
     have hw4 := hw3.symm
     subst hw4
     clear hw3
     go_wp2
     go_ret
     exact ⟨rfl, uh HB⟩
   | t0 :: t :: ts =>
     rw [hts] at hq
     have hq2 : q = decide (t.text = kLp) := by rw [hq]; rfl
     have hqb : (t.text.toList == [40]) = q := by
      rw [hq2, ByteArray.toList_eq]
      by_cases e : t.text = kLp
      ·rw [e]; decide
      ·rw [decide_eq_false e]
       rw [beq_eq_false_iff_ne]
       intro e2
       apply e
       have : t.text = BA t.text.data.toList := (BA_of _).symm
       rw [this, e2]
       rfl
     clear hq hq2
     obtain ⟨n, hn⟩ : ∃ n, n = ts.length := ⟨_, rfl⟩
     have hts2 : s.toks.length = n + 2 := by rw [hts, hn]; rfl
     have hnl : n ≤ 100000 := by have := (uh HPZ w (Below.refl _ _)).ok.few; omega
     have HT1 : Hid (s.toks[1]? = some t) := hide (by rw [hts]; rfl)
     have HNE : Hid (s.toks ≠ []) := hide (by rw [hts]; simp)
     clear hts hn
     go_enter Tryz.func100, Tryz.ntmps100
     go_wp2_with fail
     refine (uh HNX).mono ?_
     rintro e w2 ⟨rfl, b2⟩
     obtain ⟨v, h1, ad, cap, hv, hcap, hc9, hrow⟩ := (uh HPZ w2 b2).lies
     rw [hts2] at hv hcap
     subst hv
     obtain ⟨g, o, cs, hg, hgb, hk, hcs⟩ := hrow.resolve_left (uh HNE)
     subst hg
     have c0 : w2.cell? ⟨b, 0, none⟩ = some (.slice (some ⟨g, o, none⟩) (n + 2) cap) := h1.cell 0 rfl
     have c6 : w2.cell? ⟨g, o + 5 + 1, none⟩ = some (.string t.text) := hk.cell (o + 5 + 1) (by
      have := hcs 1 t (uh HT1) 1 (.string t.text) rfl
      rw [show o + 1 * 5 + 1 = o + 5 + 1 by omega] at this
      exact this)
     have t1 : (1 : Int) < ((n + 2 : Nat) : Int) := by omega
     have HB := hide b2
     clear b2 h1 hrow hk hcs hts2
     go_wp2_with fail
     refine (uh HNM w2).mono ?_
     rintro e w3 ⟨rfl, hw3⟩
     have hw4 := hw3.symm
     subst hw4
     clear hw3
     go_wp2
     go_ret
     exact ⟨by rw [← hqb]; rfl, uh HB⟩
theorem psees_lit (w : World) (b : Nat) (mp : Value) (s : Pz) (l : List ByteArray) (H : PzAt w b mp s) (hl : l.length ≤ 100) : Calls Tryz.prog 41 #[.pointer (some ⟨b, 0, none⟩), .slice (some ⟨w.heap.size, 0, none⟩) l.length l.length] (w.alloc (.cells (l.map Value.string).toArray 9)) fun e w' => e = .returned (.bool (s.sees l)) ∧ Below w.heap.size w w' := by
 have hb1 : Below w.heap.size w (w.alloc (.cells (l.map Value.string).toArray 9)) := (Below.refl _ _).alloc (ler _) _
 refine (psees_any _ b mp _ s l (H.below hb1) (srow_new w l) hl).mono ?_
 rintro e w' ⟨h1, h2⟩
 exact ⟨h1, hb1.trans (h2.mono hb1.size)⟩
theorem Br.fin {w W : World} {base b nb nc : Nat} {mp : Value} {s : Pz} {k : Int} {ad : Option Addr} {n cap : Nat} {l : List Cm} (h : Br w W base b nb nc mp s k (.slice ad n cap) l) : Blk (L9 W nb (.int .i64 k) (.bool false) (.slice none 0 0) (.slice none 0 0) (.slice none 0 0) (.slice ad n cap) (.string (BA [])) (.bool false) (.slice none 0 0)) nb 33 #[.int .i64 k, .bool false, .slice none 0 0, .slice none 0 0, .slice none 0 0, .slice ad n cap, .string (BA []), .bool false, .slice none 0 0] ∧ Got w (L9 W nb (.int .i64 k) (.bool false) (.slice none 0 0) (.slice none 0 0) (.slice none 0 0) (.slice ad n cap) (.string (BA [])) (.bool false) (.slice none 0 0)) b mp (.mk k false [] [] [] l [] false [], s) ⟨k, false, none, 0, 0, none, 0, 0, none, 0, 0, ad, n, cap, [], false, none, 0, 0⟩ :=
 h.rs.fin (x := ⟨k, false, none, 0, 0, none, 0, 0, none, 0, 0, ad, n, cap, [], false, none, 0, 0⟩) (CmAt.of (nilrow _ _ _) (nilrow _ _ _) (nilrow _ _ _) h.row.done (nilrow _ _ _)) (fun j hj => ⟨lee h.lo hj.1, hj.2, by have := h.nbb; have := hj.1; omega⟩)
theorem Br.start {w w2 w3 W4 W5 : World} {b nb g : Nat} {mp : Value} {s : Pz} {r : Cm × Pz} {x : CV} (k : Int) (R2 : RS w w2 b nb mp 33 #[.int .i64 0, .bool false, .slice none 0 0, .slice none 0 0, .slice none 0 0, .slice none 0 0, .string ⟨#[]⟩, .bool false, .slice none 0 0] s) (hg : Got w2 w3 b mp r x) (hW4 : W4 = w3.alloc (.cells #[.int .i64 x.k, .bool x.no, .slice x.al x.nl x.cl, .slice x.aw x.nw x.cw, .slice x.ar x.nr x.cr, .slice x.ac x.nc x.cc, .string (BA x.nm), .bool x.ev, .slice x.ai x.ni x.ci] 33)) (hgg : g = w3.heap.size) (hW5 : W5 = W4.alloc (.cells #[.int .i64 k, .bool false, .slice none 0 0, .slice none 0 0, .slice none 0 0, .slice (some ⟨g, 0, none⟩) 1 1, .string ⟨#[]⟩, .bool false, .slice none 0 0] 33)) (hs : w.heap.size ≤ w2.heap.size) : Br w W5 w2.heap.size b nb (g + 1) mp r.2 k (.slice (some ⟨g, 0, none⟩) 1 1) [r.1] := by
 have hs4 : W4.heap.size = g + 1 := by rw [hW4, hgg]; simp
 have b4 : Below w3.heap.size w3 W4 := by rw [hW4]; exact (Below.refl _ w3).alloc (ler _) _
 have b5 : Below W4.heap.size W4 W5 := by rw [hW5]; exact (Below.refl _ W4).alloc (ler _) _
 have b45 : Below w3.heap.size w3 W5 := b4.trans (b5.mono b4.size)
 have h23 := hg.fr.size
 have hb2 := R2.pz.lt
 have hnb2 := R2.res.lt
 have k4 : Blk W4 g 33 #[.int .i64 x.k, .bool x.no, .slice x.al x.nl x.cl, .slice x.aw x.nw x.cw, .slice x.ar x.nr x.cr, .slice x.ac x.nc x.cc, .string (BA x.nm), .bool x.ev, .slice x.ai x.ni x.ci] := by rw [hW4, hgg]; exact Blk.new _ _ _
 refine ⟨(R2.step hg.pz hg.fr).below b45, by rw [hW5, ← hs4]; exact Blk.new _ _ _, ⟨[x.l], ⟨?_, .inr ⟨g, 1, #[.int .i64 x.k, .bool x.no, .slice x.al x.nl x.cl, .slice x.aw x.nw x.cw, .slice x.ar x.nr x.cr, .slice x.ac x.nc x.cc, .string (BA x.nm), .bool x.ev, .slice x.ai x.ni x.ci], rfl, by omega, k4.below b5 k4.lt, ler _, by decide, by simp [Kc], rfl⟩⟩, rfl, fun i y cs hy hc => ?_⟩, ?_, hs, hnb2, hb2, by omega, ?_⟩
 ·show x.l.length = 1 * 9
  rfl
 ·cases i with
  | succ i => simp at hy
  | zero =>
    simp at hy hc
    subst hy
    subst hc
    refine ⟨w2.heap.size, w3.heap.size, ler _, by have := b45.size; omega, fun j hj => ?_, hg.cm.kept (fun j hj => b45.block j hj.2) (fun j hj => hj)⟩
    rcases hj with e | e
    ·have : g = j := by simpa [Value.ownBlock] using e
     exact .inr (by omega)
    ·exact .inr (by omega)
 ·intro e
  simp [Value.ownBlock] at e
 ·have := b45.size
  omega
theorem pbranches_any (b : Nat) (mp : Value) (hb : 7 ≤ b) (lst : Pz → Cm × Pz) (N : Nat) (HL : LstAt b mp lst N) (hle : ∀ s', (lst s').2.toks.length ≤ s'.toks.length) : ∀ (n : Nat) (w : World) (s : Pz), PzAt w b mp s → PEnv w → MpAt w b mp → s.toks.length ≤ n → s.toks ≠ [] → s.toks.length ≤ N → Reads 34 b mp (Pz.branchesN lst n) w s := by
 intro n
 induction n with
 | zero =>
   intro w s H he hm h0 hne
   exact absurd (List.eq_nil_of_length_eq_zero (by omega)) hne
 | succ n ih =>
 intro w s H he hm hn hne hsN
 have htl := take_lt hne
 have ha := hle s.take
 have hwt := want_le (lst s.take).2 kThen
 have hbl := hle ((lst s.take).2.want kThen)
 obtain ⟨W1, hW1⟩ : ∃ W1, W1 = w.alloc (.cells #[.int .i64 0, .bool false, .slice none 0 0, .slice none 0 0, .slice none 0 0, .slice none 0 0, .string ⟨#[]⟩, .bool false, .slice none 0 0] 33) := ⟨_, rfl⟩
 obtain ⟨nb, hnb⟩ : ∃ nb, nb = w.heap.size := ⟨_, rfl⟩
 have R1 : Hid (RS w W1 b nb mp 33 #[.int .i64 0, .bool false, .slice none 0 0, .slice none 0 0, .slice none 0 0, .slice none 0 0, .string ⟨#[]⟩, .bool false, .slice none 0 0] s) := hide (by rw [hW1, hnb]; exact rs_begin H he hb)
 have HM : Hid (∀ W, Fr w W b → MpAt W b mp) := hide (fun W h => hm.fr h)
 have HW1 := hide hW1
 have HNB := hide hnb
 have HTK := hide (ptake_any W1 b mp s (uh R1).pz)
 have HLL := hide (fun W (h1 : PzAt W b mp s.take) (h2 : PEnv W) (h3 : MpAt W b mp) => HL W s.take h1 h2 h3 (by omega))
 obtain ⟨A2, hA2⟩ : ∃ A2, A2 = (lst s.take).2 := ⟨_, rfl⟩
 rw [← hA2] at ha hwt hbl
 have HLL2 := hide (fun W (h1 : PzAt W b mp (A2.want kThen)) (h2 : PEnv W) (h3 : MpAt W b mp) => HL W (A2.want kThen) h1 h2 h3 (by omega))
 obtain ⟨B2, hB2⟩ : ∃ B2, B2 = (lst (A2.want kThen)).2 := ⟨_, rfl⟩
 rw [← hB2] at hbl
 have HB2E := hide hB2
 have HLL3 := hide (fun W (h1 : PzAt W b mp B2.take) (h2 : PEnv W) (h3 : MpAt W b mp) => HL W B2.take h1 h2 h3 (by have := take_le B2; omega))
 have HIH0 : Hid (B2.sees [kElif] = true → ∀ W, PzAt W b mp B2 → PEnv W → MpAt W b mp → Reads 34 b mp (Pz.branchesN lst n) W B2) := hide (fun hse W h1 h2 h3 => ih W B2 h1 h2 h3 (by omega) (fun e => by unfold Pz.sees Pz.next at hse; rw [e] at hse; revert hse; decide) (by omega))
 have HWB : Hid (w.heap.size ≤ nb ∧ nb < W1.heap.size) := hide ⟨(uh R1).new, (uh R1).res.lt⟩
 unfold Reads
 obtain ⟨R, hR⟩ : ∃ R, R = Pz.branchesN lst (n + 1) s := ⟨_, rfl⟩
 have HR : Hid (R = if B2.sees [kElif] then (.mk 8 false [] [] [] [(lst s.take).1, (lst (A2.want kThen)).1, (Pz.branchesN lst n B2).1] [] false [], (Pz.branchesN lst n B2).2) else if B2.sees [kElse] then (.mk 8 false [] [] [] [(lst s.take).1, (lst (A2.want kThen)).1, (lst B2.take).1] [] false [], (lst B2.take).2.want kFi) else (.mk 8 false [] [] [] [(lst s.take).1, (lst (A2.want kThen)).1] [] false [], B2.want kFi)) := hide (by rw [hR, hB2, hA2]; rfl)
 rw [← hR]
 have HA2E := hide hA2
 clear hR hW1 hnb H he hm HL hn hne hsN hle ih htl ha hwt hbl hA2 hB2
 go_enter Tryz.func34, Tryz.ntmps34
 go_upto_region 1 with fail
 rw [← uh HW1, ← uh HNB]
 clear HW1 HNB
 go_wp2_with fail
 refine (uh HTK).mono ?_
 rintro e w2 ⟨rfl, p2, f2⟩
 have R2 := hide ((uh R1).step p2 f2)
 have HLI := hide (uh HLL w2 p2 (uh R2).env (uh HM w2 (uh R2).fr))
 have HS2 : Hid (w.heap.size ≤ w2.heap.size) := hide (lee (lee (uh HWB).1 (lel (uh HWB).2)) f2.size)
 clear p2 f2 R1 HTK HLL HWB
 unfold Reads at HLI
 go_wp2_with fail
 refine (uh HLI).mono ?_
 rintro e w3 ⟨x, rfl, HG⟩
 obtain ⟨g, hg⟩ : ∃ g, g = w3.heap.size := ⟨_, rfl⟩
 obtain ⟨W4, hW4⟩ : ∃ W4, W4 = w3.alloc (.cells #[.int .i64 x.k, .bool x.no, .slice x.al x.nl x.cl, .slice x.aw x.nw x.cw, .slice x.ar x.nr x.cr, .slice x.ac x.nc x.cc, .string (BA x.nm), .bool x.ev, .slice x.ai x.ni x.ci] 33) := ⟨_, rfl⟩
 obtain ⟨W5, hW5⟩ : ∃ W5, W5 = W4.alloc (.cells #[.int .i64 8, .bool false, .slice none 0 0, .slice none 0 0, .slice none 0 0, .slice (some ⟨g, 0, none⟩) 1 1, .string ⟨#[]⟩, .bool false, .slice none 0 0] 33) := ⟨_, rfl⟩
 have hs4 : W4.heap.size = g + 1 := by rw [hW4, hg]; simp
 obtain ⟨base, hbase⟩ : ∃ base, base = w2.heap.size := ⟨_, rfl⟩
 have HB5 : Hid (Br w W5 base b nb (g + 1) mp A2 8 (.slice (some ⟨g, 0, none⟩) 1 1) [(lst s.take).1]) := hide (by rw [hbase, uh HA2E]; exact Br.start 8 (uh R2) (uh HG) hW4 hg hW5 (uh HS2))
 obtain ⟨nc, hnc⟩ : ∃ nc, nc = g + 1 := ⟨_, rfl⟩
 rw [← hnc] at HB5 hs4
 have HWT := hide (pwant_any W5 b mp A2 kThen (uh HB5).rs.pz)
 have HW4 := hide hW4
 have HW5 := hide hW5
 have HGG := hide hg
 have HS4 := hide hs4
 have HNCE := hide hnc
 clear hW4 hW5 hg hs4 R2 HG HLI hbase hnc HS2
 go_upto_region 3 with fail
 rw [← uh HGG, ← uh HW4]
 try rw [← uh HNCE]
 try rw [uh HS4]
 rw [← uh HW5]
 clear HW4 HW5 HGG HS4 HNCE
 go_wp2_with fail
 refine (uh HWT).mono ?_
 rintro e w6 ⟨rfl, p6, f6⟩
 have HB6 := hide ((uh HB5).step p6 f6)
 clear p6 f6 HB5 HWT
 have HCTq : Hid (∀ W, Below w6.heap.size w6 W → Calls Tryz.prog 56 #[.pointer (some ⟨b, 0, none⟩)] W fun e w' => ∃ (xq : CV) (adq : Option Addr) (nq capq : Nat) (w3 : World), e = .returned (.agg #[.int .i64 xq.k, .bool xq.no, .slice xq.al xq.nl xq.cl, .slice xq.aw xq.nw xq.cw, .slice xq.ar xq.nr xq.cr, .slice xq.ac xq.nc xq.cc, .string (BA xq.nm), .bool xq.ev, .slice xq.ai xq.ni xq.ci]) ∧ w'.cell? ⟨nc, 5, none⟩ = some (.slice (some ⟨g, 0, none⟩) 1 1) ∧ (∀ ty, (Builtin.append_ #[23, 23] ty #[.slice (some ⟨g, 0, none⟩) 1 1, .slice (some ⟨w'.heap.size, 0, none⟩) 1 1]).run Tryz.prog (w'.alloc (.cells #[.int .i64 xq.k, .bool xq.no, .slice xq.al xq.nl xq.cl, .slice xq.aw xq.nw xq.cw, .slice xq.ar xq.nr xq.cr, .slice xq.ac xq.nc xq.cc, .string (BA xq.nm), .bool xq.ev, .slice xq.ai xq.ni xq.ci] 33)) = .ok (.slice adq nq capq) w3) ∧ w3.cell? ⟨nc, 5, none⟩ = some (.slice (some ⟨g, 0, none⟩) 1 1) ∧ w3.frozen? ⟨nc, 5, none⟩ = false ∧ Hid (Br w (w3.setCell ⟨nc, 5, none⟩ (.slice adq nq capq)) base b nb nc mp (lst (A2.want kThen)).2 8 (.slice adq nq capq) ([(lst s.take).1] ++ [(lst (A2.want kThen)).1]))) := hide (fun W hB => by
  have h5 := (uh HB6).below hB
  have h := uh HLL2 W h5.rs.pz h5.rs.env (uh HM W h5.rs.fr)
  unfold Reads at h
  refine h.mono ?_
  rintro e w' ⟨x, rfl, hg⟩
  obtain ⟨ad, n, cap, w3, r1, r2, r3⟩ := h5.add (uh hg) (by simp)
  exact ⟨x, ad, n, cap, w3, rfl, (h5.step (uh hg).pz (uh hg).fr).cb.cell 5 rfl, r1, r2.cell 5 rfl, r2.frozen 5, hide r3⟩)
 have c5 : w6.cell? ⟨nc, 5, none⟩ = some (.slice (some ⟨g, 0, none⟩) 1 1) := (uh HB6).cb.cell 5 rfl
 clear HB6
 go_wp2_with fail
 refine wp_region_held_drew (S := fun _ => True) (by kernel_rfl) trivial (fun hHeld => ?_)
 refine tk 0 (v := ?_) ?_ ?_
 rotate_left
 ·intro w hSw; (try dsimp only at hSw); go_simp; (try with_reducible rfl)
 go_frame
 refine tk 2 (v := ?_) ?_ ?_
 rotate_left
 ·intro w hSw; (try dsimp only at hSw); go_simp; (try with_reducible rfl)
 go_frame
 refine wpAnyH_ready (rs := [1, 3]) (by kernel_rfl) (by simp) ?_
 refine AllReadyH.cons rfl (fun KK hKK => ?_) (AllReadyH.cons rfl (fun KK hKK => ?_) AllReadyH.nil)
 focus
  go_simp
  refine hKK.out _ _ trivial (fun hHeld => ?_)
  clear hKK KK
  try go_frame
  refine rd1 3 (fun KK hKK => ?_)
  go_simp
  refine (uh HCTq _ (by first | exact Below.refl _ _ | exact below_drew' _ _)).mono ?_
  rintro e wqq ⟨xq, adq, nq, capq, w6q, rfl, d4, hrun, d5, d6, HBq⟩
  have HRUN := hide hrun
  clear hrun
  refine hKK.out _ _ trivial (fun hHeld => ?_)
  clear hKK KK
  try go_frame
  refine rd1 4 (fun KK hKK => ?_)
  go_simp
  have d4b : (wqq.alloc (.cells #[.int .i64 xq.k, .bool xq.no, .slice xq.al xq.nl xq.cl, .slice xq.aw xq.nw xq.cw, .slice xq.ar xq.nr xq.cr, .slice xq.ac xq.nc xq.cc, .string (BA xq.nm), .bool xq.ev, .slice xq.ai xq.ni xq.ci] 33)).cell? ⟨nc, 5, none⟩ = some (.slice (some ⟨g, 0, none⟩) 1 1) := cell_alloc d4 _
  refine hKK.out _ _ trivial (fun hHeld => ?_)
  clear hKK KK
  try go_frame
  refine rd1 5 (fun KK hKK => ?_)
  refine step_app_run (by rfl) _ _ _ (by rfl) _ _ _ (by simp [Act.eval]) (by simp [Act.eval]) (uh HRUN) ?_
  refine hKK.out _ _ trivial (fun hHeld => ?_)
  clear hKK KK
  try go_frame
  refine tk 6 (v := ?_) ?_ ?_
  rotate_left
  ·intro w hSw; (try dsimp only at hSw); go_simp; (try with_reducible rfl)
  go_frame
  refine rd1 7 (fun KK hKK => ?_)
  go_simp
  refine hKK.out _ _ trivial (fun hHeld => ?_)
  clear hKK KK
  try go_frame
  clear hHeld
  refine wpAnyH_done (by kernel_rfl) ?_ _
 rotate_left
 focus
  go_simp
  refine (uh HCTq _ (by first | exact Below.refl _ _ | exact below_drew' _ _)).mono ?_
  rintro e wqq ⟨xq, adq, nq, capq, w6q, rfl, d4, hrun, d5, d6, HBq⟩
  have HRUN := hide hrun
  clear hrun
  refine hKK.out _ _ trivial (fun hHeld => ?_)
  clear hKK KK
  try go_frame
  refine wpAnyH_ready (rs := [1, 4]) (by kernel_rfl) (by simp) ?_
  refine AllReadyH.cons rfl (fun KK hKK => ?_) (AllReadyH.cons rfl (fun KK hKK => ?_) AllReadyH.nil)
  focus
   go_simp
   refine hKK.out _ _ trivial (fun hHeld => ?_)
   clear hKK KK
   try go_frame
   refine rd1 4 (fun KK hKK => ?_)
   go_simp
   have d4b : (wqq.alloc (.cells #[.int .i64 xq.k, .bool xq.no, .slice xq.al xq.nl xq.cl, .slice xq.aw xq.nw xq.cw, .slice xq.ar xq.nr xq.cr, .slice xq.ac xq.nc xq.cc, .string (BA xq.nm), .bool xq.ev, .slice xq.ai xq.ni xq.ci] 33)).cell? ⟨nc, 5, none⟩ = some (.slice (some ⟨g, 0, none⟩) 1 1) := cell_alloc d4 _
   refine hKK.out _ _ trivial (fun hHeld => ?_)
   clear hKK KK
   try go_frame
   refine rd1 5 (fun KK hKK => ?_)
   refine step_app_run (by rfl) _ _ _ (by rfl) _ _ _ (by simp [Act.eval]) (by simp [Act.eval]) (uh HRUN) ?_
   refine hKK.out _ _ trivial (fun hHeld => ?_)
   clear hKK KK
   try go_frame
   refine tk 6 (v := ?_) ?_ ?_
   rotate_left
   ·intro w hSw; (try dsimp only at hSw); go_simp; (try with_reducible rfl)
   go_frame
   refine rd1 7 (fun KK hKK => ?_)
   go_simp
   refine hKK.out _ _ trivial (fun hHeld => ?_)
   clear hKK KK
   try go_frame
   clear hHeld
   refine wpAnyH_done (by kernel_rfl) ?_ _
  rotate_left
  focus
   go_simp
   have d4b : (wqq.alloc (.cells #[.int .i64 xq.k, .bool xq.no, .slice xq.al xq.nl xq.cl, .slice xq.aw xq.nw xq.cw, .slice xq.ar xq.nr xq.cr, .slice xq.ac xq.nc xq.cc, .string (BA xq.nm), .bool xq.ev, .slice xq.ai xq.ni xq.ci] 33)).cell? ⟨nc, 5, none⟩ = some (.slice (some ⟨g, 0, none⟩) 1 1) := cell_alloc d4 _
   refine hKK.out _ _ trivial (fun hHeld => ?_)
   clear hKK KK
   try go_frame
   refine rd1 1 (fun KK hKK => ?_)
   go_simp
   refine hKK.out _ _ trivial (fun hHeld => ?_)
   clear hKK KK
   try go_frame
   refine rd1 5 (fun KK hKK => ?_)
   refine step_app_run (by rfl) _ _ _ (by rfl) _ _ _ (by simp [Act.eval]) (by simp [Act.eval]) (uh HRUN) ?_
   refine hKK.out _ _ trivial (fun hHeld => ?_)
   clear hKK KK
   try go_frame
   refine tk 6 (v := ?_) ?_ ?_
   rotate_left
   ·intro w hSw; (try dsimp only at hSw); go_simp; (try with_reducible rfl)
   go_frame
   refine rd1 7 (fun KK hKK => ?_)
   go_simp
   refine hKK.out _ _ trivial (fun hHeld => ?_)
   clear hKK KK
   try go_frame
   clear hHeld
   refine wpAnyH_done (by kernel_rfl) ?_ _
  rotate_left
 rotate_left 2
 all_goals
  clear d4 d4b d5 d6 HCTq HRUN c5
  obtain ⟨Wq, hWq⟩ : ∃ Wq, Wq = w6q.setCell ⟨nc, 5, none⟩ (.slice adq nq capq) := ⟨_, rfl⟩
  rw [← hWq] at HBq ⊢
  clear hWq
  rw [← uh HB2E] at HBq
  have HSE : Hid (Calls Tryz.prog 41 #[.pointer (some ⟨b, 0, none⟩), .slice (some ⟨Wq.heap.size, 0, none⟩) 1 1] (Wq.alloc (.cells #[.string ⟨#[101, 108, 105, 102]⟩] 9)) fun e w' => e = .returned (.bool (B2.sees [kElif])) ∧ Below Wq.heap.size Wq w') := hide (psees_lit Wq b mp B2 [kElif] (uh HBq).rs.pz (by decide))
  cases hse : B2.sees [kElif] with
  | true =>
    rw [hse] at HSE
    have HR3 : Hid (R = (.mk 8 false [] [] [] ([(lst s.take).1] ++ [(lst (A2.want kThen)).1] ++ [(Pz.branchesN lst n B2).1]) [] false [], (Pz.branchesN lst n B2).2)) := hide (by rw [uh HR, if_pos hse]; rfl)
    have HIH := hide (uh HIH0 hse)
    clear hse HIH0
    go_wp2_with fail
    refine (uh HSE).mono ?_
    rintro e w8 ⟨rfl, b8⟩
    have HB8 := hide ((uh HBq).below b8)
    clear b8 HSE HBq
    have HCTr : Hid (∀ W, Below w8.heap.size w8 W → Calls Tryz.prog 34 #[.pointer (some ⟨b, 0, none⟩)] W fun e w' => ∃ (xr : CV) (adr : Option Addr) (nr capr : Nat) (w3 : World), e = .returned (.agg #[.int .i64 xr.k, .bool xr.no, .slice xr.al xr.nl xr.cl, .slice xr.aw xr.nw xr.cw, .slice xr.ar xr.nr xr.cr, .slice xr.ac xr.nc xr.cc, .string (BA xr.nm), .bool xr.ev, .slice xr.ai xr.ni xr.ci]) ∧ w'.cell? ⟨nc, 5, none⟩ = some (.slice adq nq capq) ∧ (∀ ty, (Builtin.append_ #[23, 23] ty #[.slice adq nq capq, .slice (some ⟨w'.heap.size, 0, none⟩) 1 1]).run Tryz.prog (w'.alloc (.cells #[.int .i64 xr.k, .bool xr.no, .slice xr.al xr.nl xr.cl, .slice xr.aw xr.nw xr.cw, .slice xr.ar xr.nr xr.cr, .slice xr.ac xr.nc xr.cc, .string (BA xr.nm), .bool xr.ev, .slice xr.ai xr.ni xr.ci] 33)) = .ok (.slice adr nr capr) w3) ∧ w3.cell? ⟨nc, 5, none⟩ = some (.slice adq nq capq) ∧ w3.frozen? ⟨nc, 5, none⟩ = false ∧ Hid (Br w (w3.setCell ⟨nc, 5, none⟩ (.slice adr nr capr)) base b nb nc mp (Pz.branchesN lst n B2).2 8 (.slice adr nr capr) (([(lst s.take).1] ++ [(lst (A2.want kThen)).1]) ++ [(Pz.branchesN lst n B2).1]))) := hide (fun W hB => by
     have h5 := (uh HB8).below hB
     have h := uh HIH W h5.rs.pz h5.rs.env (uh HM W h5.rs.fr)
     unfold Reads at h
     refine h.mono ?_
     rintro e w' ⟨x, rfl, hg⟩
     obtain ⟨ad, n, cap, w3, r1, r2, r3⟩ := h5.add (uh hg) (by simp)
     exact ⟨x, ad, n, cap, w3, rfl, (h5.step (uh hg).pz (uh hg).fr).cb.cell 5 rfl, r1, r2.cell 5 rfl, r2.frozen 5, hide r3⟩)
    have c5 : w8.cell? ⟨nc, 5, none⟩ = some (.slice adq nq capq) := (uh HB8).cb.cell 5 rfl
    clear HB8
    go_wp2_with fail
    refine wp_region_held_drew (S := fun _ => True) (by kernel_rfl) trivial (fun hHeld => ?_)
    refine tk 0 (v := ?_) ?_ ?_
    rotate_left
    ·intro w hSw; (try dsimp only at hSw); go_simp; (try with_reducible rfl)
    go_frame
    refine tk 2 (v := ?_) ?_ ?_
    rotate_left
    ·intro w hSw; (try dsimp only at hSw); go_simp; (try with_reducible rfl)
    go_frame
    refine wpAnyH_ready (rs := [1, 3]) (by kernel_rfl) (by simp) ?_
    refine AllReadyH.cons rfl (fun KK hKK => ?_) (AllReadyH.cons rfl (fun KK hKK => ?_) AllReadyH.nil)
    focus
     go_simp
     refine hKK.out _ _ trivial (fun hHeld => ?_)
     clear hKK KK
     try go_frame
     refine rd1 3 (fun KK hKK => ?_)
     go_simp
     refine (uh HCTr _ (by first | exact Below.refl _ _ | exact below_drew' _ _)).mono ?_
     rintro e wqr ⟨xr, adr, nr, capr, w6r, rfl, d4, hrun, d5, d6, HBr⟩
     have HRUN := hide hrun
     clear hrun
     refine hKK.out _ _ trivial (fun hHeld => ?_)
     clear hKK KK
     try go_frame
     refine rd1 4 (fun KK hKK => ?_)
     go_simp
     have d4b : (wqr.alloc (.cells #[.int .i64 xr.k, .bool xr.no, .slice xr.al xr.nl xr.cl, .slice xr.aw xr.nw xr.cw, .slice xr.ar xr.nr xr.cr, .slice xr.ac xr.nc xr.cc, .string (BA xr.nm), .bool xr.ev, .slice xr.ai xr.ni xr.ci] 33)).cell? ⟨nc, 5, none⟩ = some (.slice adq nq capq) := cell_alloc d4 _
     refine hKK.out _ _ trivial (fun hHeld => ?_)
     clear hKK KK
     try go_frame
     refine rd1 5 (fun KK hKK => ?_)
     refine step_app_run (by rfl) _ _ _ (by rfl) _ _ _ (by simp [Act.eval]) (by simp [Act.eval]) (uh HRUN) ?_
     refine hKK.out _ _ trivial (fun hHeld => ?_)
     clear hKK KK
     try go_frame
     refine tk 6 (v := ?_) ?_ ?_
     rotate_left
     ·intro w hSw; (try dsimp only at hSw); go_simp; (try with_reducible rfl)
     go_frame
     refine rd1 7 (fun KK hKK => ?_)
     go_simp
     refine hKK.out _ _ trivial (fun hHeld => ?_)
     clear hKK KK
     try go_frame
     clear hHeld
     refine wpAnyH_done (by kernel_rfl) ?_ _
    rotate_left
    focus
     go_simp
     refine (uh HCTr _ (by first | exact Below.refl _ _ | exact below_drew' _ _)).mono ?_
     rintro e wqr ⟨xr, adr, nr, capr, w6r, rfl, d4, hrun, d5, d6, HBr⟩
     have HRUN := hide hrun
     clear hrun
     refine hKK.out _ _ trivial (fun hHeld => ?_)
     clear hKK KK
     try go_frame
     refine wpAnyH_ready (rs := [1, 4]) (by kernel_rfl) (by simp) ?_
     refine AllReadyH.cons rfl (fun KK hKK => ?_) (AllReadyH.cons rfl (fun KK hKK => ?_) AllReadyH.nil)
     focus
      go_simp
      refine hKK.out _ _ trivial (fun hHeld => ?_)
      clear hKK KK
      try go_frame
      refine rd1 4 (fun KK hKK => ?_)
      go_simp
      have d4b : (wqr.alloc (.cells #[.int .i64 xr.k, .bool xr.no, .slice xr.al xr.nl xr.cl, .slice xr.aw xr.nw xr.cw, .slice xr.ar xr.nr xr.cr, .slice xr.ac xr.nc xr.cc, .string (BA xr.nm), .bool xr.ev, .slice xr.ai xr.ni xr.ci] 33)).cell? ⟨nc, 5, none⟩ = some (.slice adq nq capq) := cell_alloc d4 _
      refine hKK.out _ _ trivial (fun hHeld => ?_)
      clear hKK KK
      try go_frame
      refine rd1 5 (fun KK hKK => ?_)
      refine step_app_run (by rfl) _ _ _ (by rfl) _ _ _ (by simp [Act.eval]) (by simp [Act.eval]) (uh HRUN) ?_
      refine hKK.out _ _ trivial (fun hHeld => ?_)
      clear hKK KK
      try go_frame
      refine tk 6 (v := ?_) ?_ ?_
      rotate_left
      ·intro w hSw; (try dsimp only at hSw); go_simp; (try with_reducible rfl)
      go_frame
      refine rd1 7 (fun KK hKK => ?_)
      go_simp
      refine hKK.out _ _ trivial (fun hHeld => ?_)
      clear hKK KK
      try go_frame
      clear hHeld
      refine wpAnyH_done (by kernel_rfl) ?_ _
     rotate_left
     focus
      go_simp
      have d4b : (wqr.alloc (.cells #[.int .i64 xr.k, .bool xr.no, .slice xr.al xr.nl xr.cl, .slice xr.aw xr.nw xr.cw, .slice xr.ar xr.nr xr.cr, .slice xr.ac xr.nc xr.cc, .string (BA xr.nm), .bool xr.ev, .slice xr.ai xr.ni xr.ci] 33)).cell? ⟨nc, 5, none⟩ = some (.slice adq nq capq) := cell_alloc d4 _
      refine hKK.out _ _ trivial (fun hHeld => ?_)
      clear hKK KK
      try go_frame
      refine rd1 1 (fun KK hKK => ?_)
      go_simp
      refine hKK.out _ _ trivial (fun hHeld => ?_)
      clear hKK KK
      try go_frame
      refine rd1 5 (fun KK hKK => ?_)
      refine step_app_run (by rfl) _ _ _ (by rfl) _ _ _ (by simp [Act.eval]) (by simp [Act.eval]) (uh HRUN) ?_
      refine hKK.out _ _ trivial (fun hHeld => ?_)
      clear hKK KK
      try go_frame
      refine tk 6 (v := ?_) ?_ ?_
      rotate_left
      ·intro w hSw; (try dsimp only at hSw); go_simp; (try with_reducible rfl)
      go_frame
      refine rd1 7 (fun KK hKK => ?_)
      go_simp
      refine hKK.out _ _ trivial (fun hHeld => ?_)
      clear hKK KK
      try go_frame
      clear hHeld
      refine wpAnyH_done (by kernel_rfl) ?_ _
     rotate_left
    rotate_left 2
    all_goals
     clear d4 d4b d5 d6 HCTr HRUN c5
     obtain ⟨Wr, hWr⟩ : ∃ Wr, Wr = w6r.setCell ⟨nc, 5, none⟩ (.slice adr nr capr) := ⟨_, rfl⟩
     rw [← hWr] at HBr ⊢
     clear hWr
     have R6 := hide (uh HBr).rs
     have HFIN := hide ((uh HBr).fin)
     obtain ⟨c0, c1, c2, c3, c4, c5, c6, c7, c8⟩ := cel9 (uh HBr).cb
     obtain ⟨z0, z1, z2, z3, z4, z5, z6, z7, z8⟩ := cel9 (uh R6).res
     have zf : ∀ i, Wr.frozen? ⟨nb, i, none⟩ = false := fun i => (uh R6).res.frozen i
     clear R6 HBr
     go_wp2
     refine bodyPost_ret (results_cell_row (P := Tryz.prog) rfl _ _ nb 33 _ (0, 0) _ rfl (uh HFIN).1 Tryz.underlying33 rfl (by kernel_rfl)) rfl ⟨⟨8, false, none, 0, 0, none, 0, 0, none, 0, 0, adr, nr, capr, [], false, none, 0, 0⟩, rfl, hide (by rw [uh HR3]; exact (uh HFIN).2)⟩
  | false =>
    rw [hse] at HSE
    have HNE := hide hse
    clear hse
    go_wp2_with fail
    refine (uh HSE).mono ?_
    rintro e w8 ⟨rfl, b8⟩
    have HB8 := hide ((uh HBq).below b8)
    have HSK := hide (pskip_any w8 b mp B2 kElse (uh HB8).rs.pz)
    clear b8 HSE HBq
    cases hsl : B2.sees [kElse] with
    | true =>
      have hsk : B2.skips kElse = B2.take := by unfold Pz.skips; rw [if_pos hsl]
      rw [hsl, hsk] at HSK
      have HR3 : Hid (R = (.mk 8 false [] [] [] ([(lst s.take).1] ++ [(lst (A2.want kThen)).1] ++ [(lst B2.take).1]) [] false [], (lst B2.take).2.want kFi)) := hide (by rw [uh HR, if_neg (by rw [uh HNE]; decide), if_pos hsl]; rfl)
      clear hsl hsk
      go_wp2_with fail
      refine (uh HSK).mono ?_
      rintro e w9 ⟨rfl, p9, f9⟩
      have HB9 := hide ((uh HB8).step p9 f9)
      clear p9 f9 HSK HB8
      have HCTr : Hid (∀ W, Below w9.heap.size w9 W → Calls Tryz.prog 56 #[.pointer (some ⟨b, 0, none⟩)] W fun e w' => ∃ (xr : CV) (adr : Option Addr) (nr capr : Nat) (w3 : World), e = .returned (.agg #[.int .i64 xr.k, .bool xr.no, .slice xr.al xr.nl xr.cl, .slice xr.aw xr.nw xr.cw, .slice xr.ar xr.nr xr.cr, .slice xr.ac xr.nc xr.cc, .string (BA xr.nm), .bool xr.ev, .slice xr.ai xr.ni xr.ci]) ∧ w'.cell? ⟨nc, 5, none⟩ = some (.slice adq nq capq) ∧ (∀ ty, (Builtin.append_ #[23, 23] ty #[.slice adq nq capq, .slice (some ⟨w'.heap.size, 0, none⟩) 1 1]).run Tryz.prog (w'.alloc (.cells #[.int .i64 xr.k, .bool xr.no, .slice xr.al xr.nl xr.cl, .slice xr.aw xr.nw xr.cw, .slice xr.ar xr.nr xr.cr, .slice xr.ac xr.nc xr.cc, .string (BA xr.nm), .bool xr.ev, .slice xr.ai xr.ni xr.ci] 33)) = .ok (.slice adr nr capr) w3) ∧ w3.cell? ⟨nc, 5, none⟩ = some (.slice adq nq capq) ∧ w3.frozen? ⟨nc, 5, none⟩ = false ∧ Hid (Br w (w3.setCell ⟨nc, 5, none⟩ (.slice adr nr capr)) base b nb nc mp (lst B2.take).2 8 (.slice adr nr capr) (([(lst s.take).1] ++ [(lst (A2.want kThen)).1]) ++ [(lst B2.take).1]))) := hide (fun W hB => by
       have h5 := (uh HB9).below hB
       have h := uh HLL3 W h5.rs.pz h5.rs.env (uh HM W h5.rs.fr)
       unfold Reads at h
       refine h.mono ?_
       rintro e w' ⟨x, rfl, hg⟩
       obtain ⟨ad, n, cap, w3, r1, r2, r3⟩ := h5.add (uh hg) (by simp)
       exact ⟨x, ad, n, cap, w3, rfl, (h5.step (uh hg).pz (uh hg).fr).cb.cell 5 rfl, r1, r2.cell 5 rfl, r2.frozen 5, hide r3⟩)
      have c5 : w9.cell? ⟨nc, 5, none⟩ = some (.slice adq nq capq) := (uh HB9).cb.cell 5 rfl
      clear HB9
      go_wp2_with fail
      refine wp_region_held_drew (S := fun _ => True) (by kernel_rfl) trivial (fun hHeld => ?_)
      refine tk 0 (v := ?_) ?_ ?_
      rotate_left
      ·intro w hSw; (try dsimp only at hSw); go_simp; (try with_reducible rfl)
      go_frame
      refine tk 2 (v := ?_) ?_ ?_
      rotate_left
      ·intro w hSw; (try dsimp only at hSw); go_simp; (try with_reducible rfl)
      go_frame
      refine wpAnyH_ready (rs := [1, 3]) (by kernel_rfl) (by simp) ?_
      refine AllReadyH.cons rfl (fun KK hKK => ?_) (AllReadyH.cons rfl (fun KK hKK => ?_) AllReadyH.nil)
      focus
       go_simp
       refine hKK.out _ _ trivial (fun hHeld => ?_)
       clear hKK KK
       try go_frame
       refine rd1 3 (fun KK hKK => ?_)
       go_simp
       refine (uh HCTr _ (by first | exact Below.refl _ _ | exact below_drew' _ _)).mono ?_
       rintro e wqr ⟨xr, adr, nr, capr, w6r, rfl, d4, hrun, d5, d6, HBr⟩
       have HRUN := hide hrun
       clear hrun
       refine hKK.out _ _ trivial (fun hHeld => ?_)
       clear hKK KK
       try go_frame
       refine rd1 4 (fun KK hKK => ?_)
       go_simp
       have d4b : (wqr.alloc (.cells #[.int .i64 xr.k, .bool xr.no, .slice xr.al xr.nl xr.cl, .slice xr.aw xr.nw xr.cw, .slice xr.ar xr.nr xr.cr, .slice xr.ac xr.nc xr.cc, .string (BA xr.nm), .bool xr.ev, .slice xr.ai xr.ni xr.ci] 33)).cell? ⟨nc, 5, none⟩ = some (.slice adq nq capq) := cell_alloc d4 _
       refine hKK.out _ _ trivial (fun hHeld => ?_)
       clear hKK KK
       try go_frame
       refine rd1 5 (fun KK hKK => ?_)
       refine step_app_run (by rfl) _ _ _ (by rfl) _ _ _ (by simp [Act.eval]) (by simp [Act.eval]) (uh HRUN) ?_
       refine hKK.out _ _ trivial (fun hHeld => ?_)
       clear hKK KK
       try go_frame
       refine tk 6 (v := ?_) ?_ ?_
       rotate_left
       ·intro w hSw; (try dsimp only at hSw); go_simp; (try with_reducible rfl)
       go_frame
       refine rd1 7 (fun KK hKK => ?_)
       go_simp
       refine hKK.out _ _ trivial (fun hHeld => ?_)
       clear hKK KK
       try go_frame
       clear hHeld
       refine wpAnyH_done (by kernel_rfl) ?_ _
      rotate_left
      focus
       go_simp
       refine (uh HCTr _ (by first | exact Below.refl _ _ | exact below_drew' _ _)).mono ?_
       rintro e wqr ⟨xr, adr, nr, capr, w6r, rfl, d4, hrun, d5, d6, HBr⟩
       have HRUN := hide hrun
       clear hrun
       refine hKK.out _ _ trivial (fun hHeld => ?_)
       clear hKK KK
       try go_frame
       refine wpAnyH_ready (rs := [1, 4]) (by kernel_rfl) (by simp) ?_
       refine AllReadyH.cons rfl (fun KK hKK => ?_) (AllReadyH.cons rfl (fun KK hKK => ?_) AllReadyH.nil)
       focus
        go_simp
        refine hKK.out _ _ trivial (fun hHeld => ?_)
        clear hKK KK
        try go_frame
        refine rd1 4 (fun KK hKK => ?_)
        go_simp
        have d4b : (wqr.alloc (.cells #[.int .i64 xr.k, .bool xr.no, .slice xr.al xr.nl xr.cl, .slice xr.aw xr.nw xr.cw, .slice xr.ar xr.nr xr.cr, .slice xr.ac xr.nc xr.cc, .string (BA xr.nm), .bool xr.ev, .slice xr.ai xr.ni xr.ci] 33)).cell? ⟨nc, 5, none⟩ = some (.slice adq nq capq) := cell_alloc d4 _
        refine hKK.out _ _ trivial (fun hHeld => ?_)
        clear hKK KK
        try go_frame
        refine rd1 5 (fun KK hKK => ?_)
        refine step_app_run (by rfl) _ _ _ (by rfl) _ _ _ (by simp [Act.eval]) (by simp [Act.eval]) (uh HRUN) ?_
        refine hKK.out _ _ trivial (fun hHeld => ?_)
        clear hKK KK
        try go_frame
        refine tk 6 (v := ?_) ?_ ?_
        rotate_left
        ·intro w hSw; (try dsimp only at hSw); go_simp; (try with_reducible rfl)
        go_frame
        refine rd1 7 (fun KK hKK => ?_)
        go_simp
        refine hKK.out _ _ trivial (fun hHeld => ?_)
        clear hKK KK
        try go_frame
        clear hHeld
        refine wpAnyH_done (by kernel_rfl) ?_ _
       rotate_left
       focus
        go_simp
        have d4b : (wqr.alloc (.cells #[.int .i64 xr.k, .bool xr.no, .slice xr.al xr.nl xr.cl, .slice xr.aw xr.nw xr.cw, .slice xr.ar xr.nr xr.cr, .slice xr.ac xr.nc xr.cc, .string (BA xr.nm), .bool xr.ev, .slice xr.ai xr.ni xr.ci] 33)).cell? ⟨nc, 5, none⟩ = some (.slice adq nq capq) := cell_alloc d4 _
        refine hKK.out _ _ trivial (fun hHeld => ?_)
        clear hKK KK
        try go_frame
        refine rd1 1 (fun KK hKK => ?_)
        go_simp
        refine hKK.out _ _ trivial (fun hHeld => ?_)
        clear hKK KK
        try go_frame
        refine rd1 5 (fun KK hKK => ?_)
        refine step_app_run (by rfl) _ _ _ (by rfl) _ _ _ (by simp [Act.eval]) (by simp [Act.eval]) (uh HRUN) ?_
        refine hKK.out _ _ trivial (fun hHeld => ?_)
        clear hKK KK
        try go_frame
        refine tk 6 (v := ?_) ?_ ?_
        rotate_left
        ·intro w hSw; (try dsimp only at hSw); go_simp; (try with_reducible rfl)
        go_frame
        refine rd1 7 (fun KK hKK => ?_)
        go_simp
        refine hKK.out _ _ trivial (fun hHeld => ?_)
        clear hKK KK
        try go_frame
        clear hHeld
        refine wpAnyH_done (by kernel_rfl) ?_ _
       rotate_left
      rotate_left 2
      all_goals
       clear d4 d4b d5 d6 HCTr HRUN c5
       obtain ⟨Wr, hWr⟩ : ∃ Wr, Wr = w6r.setCell ⟨nc, 5, none⟩ (.slice adr nr capr) := ⟨_, rfl⟩
       rw [← hWr] at HBr ⊢
       clear hWr
       have HWT9 := hide (pwant_any Wr b mp (lst B2.take).2 kFi (uh HBr).rs.pz)
       go_wp2_with fail
       refine (uh HWT9).mono ?_
       rintro e wf ⟨rfl, pf, ff⟩
       have HBF := hide ((uh HBr).step pf ff)
       clear pf ff HBr HWT9
       have R6 := hide (uh HBF).rs
       have HFIN := hide ((uh HBF).fin)
       obtain ⟨c0, c1, c2, c3, c4, c5, c6, c7, c8⟩ := cel9 (uh HBF).cb
       obtain ⟨z0, z1, z2, z3, z4, z5, z6, z7, z8⟩ := cel9 (uh R6).res
       have zf : ∀ i, wf.frozen? ⟨nb, i, none⟩ = false := fun i => (uh R6).res.frozen i
       clear R6 HBF
       go_wp2
       refine bodyPost_ret (results_cell_row (P := Tryz.prog) rfl _ _ nb 33 _ (0, 0) _ rfl (uh HFIN).1 Tryz.underlying33 rfl (by kernel_rfl)) rfl ⟨⟨8, false, none, 0, 0, none, 0, 0, none, 0, 0, adr, nr, capr, [], false, none, 0, 0⟩, rfl, hide (by rw [uh HR3]; exact (uh HFIN).2)⟩
    | false =>
      have hsk : B2.skips kElse = B2 := by unfold Pz.skips; rw [if_neg (by rw [hsl]; decide)]
      rw [hsl, hsk] at HSK
      have HR3 : Hid (R = (.mk 8 false [] [] [] ([(lst s.take).1] ++ [(lst (A2.want kThen)).1]) [] false [], B2.want kFi)) := hide (by rw [uh HR, if_neg (by rw [uh HNE]; decide), if_neg (by rw [hsl]; decide)]; rfl)
      clear hsl hsk
      go_wp2_with fail
      refine (uh HSK).mono ?_
      rintro e w9 ⟨rfl, p9, f9⟩
      have HB9 := hide ((uh HB8).step p9 f9)
      clear p9 f9 HSK HB8
      have HWT8 := hide (pwant_any w9 b mp B2 kFi (uh HB9).rs.pz)
      go_wp2_with fail
      refine (uh HWT8).mono ?_
      rintro e wf ⟨rfl, pf, ff⟩
      have HBF := hide ((uh HB9).step pf ff)
      clear pf ff HB9 HWT8
      have R6 := hide (uh HBF).rs
      have HFIN := hide ((uh HBF).fin)
      obtain ⟨c0, c1, c2, c3, c4, c5, c6, c7, c8⟩ := cel9 (uh HBF).cb
      obtain ⟨z0, z1, z2, z3, z4, z5, z6, z7, z8⟩ := cel9 (uh R6).res
      have zf : ∀ i, wf.frozen? ⟨nb, i, none⟩ = false := fun i => (uh R6).res.frozen i
      clear R6 HBF
      go_wp2
      refine bodyPost_ret (results_cell_row (P := Tryz.prog) rfl _ _ nb 33 _ (0, 0) _ rfl (uh HFIN).1 Tryz.underlying33 rfl (by kernel_rfl)) rfl ⟨⟨8, false, none, 0, 0, none, 0, 0, none, 0, 0, adq, nq, capq, [], false, none, 0, 0⟩, rfl, hide (by rw [uh HR3]; exact (uh HFIN).2)⟩
end Go.Proofs.YtojjfdobilkknaaGreatDoor
namespace Go.Proofs.YtojjfdobilkknaaGreatDoor
open Go.RowKit Go.Maps
theorem bg_none {lst : Pz → Cm × Pz} {t : ByteArray} (h : Pz.beginOf lst t = none) : bgV t.data.toList = .nilFunc := by
 unfold Pz.beginOf at h
 unfold bgV
 have e : ∀ k : ByteArray, t ≠ k → t.data.toList ≠ k.data.toList := fun k hk he => hk (by
  have h1 : t = BA t.data.toList := (BA_of _).symm
  have h2 : k = BA k.data.toList := (BA_of _).symm
  rw [h1, he, ← h2])
 split at h
 ·cases h
 ·rename_i h1
  split at h
  ·cases h
  ·rename_i h2
   split at h
   ·cases h
   ·rename_i h3
    split at h
    ·cases h
    ·rename_i h4
     split at h
     ·cases h
     ·rename_i h5
      split at h
      ·cases h
      ·rename_i h6
       split at h
       ·cases h
       ·rename_i h7
        rw [if_neg (show ¬ t.data.toList = [40] from e _ h1), if_neg (show ¬ t.data.toList = [123] from e _ h2), if_neg (show ¬ t.data.toList = [105, 102] from e _ h3), if_neg (show ¬ t.data.toList = [119, 104, 105, 108, 101] from e _ h4), if_neg (show ¬ t.data.toList = [117, 110, 116, 105, 108] from e _ h5), if_neg (show ¬ t.data.toList = [102, 111, 114] from e _ h6), if_neg (show ¬ t.data.toList = [99, 97, 115, 101] from e _ h7)]
theorem bg_some {lst : Pz → Cm × Pz} {t : ByteArray} (h : (Pz.beginOf lst t).isSome = true) : ∃ kk, bgV t.data.toList = .func (.func kk) #[] #[] := by
 unfold Pz.beginOf at h
 split at h
 ·rename_i h1; rw [h1]; exact ⟨32, by kernel_rfl⟩
 ·split at h
  ·rename_i h1; rw [h1]; exact ⟨33, by kernel_rfl⟩
  ·split at h
   ·rename_i h1; rw [h1]; exact ⟨34, by kernel_rfl⟩
   ·split at h
    ·rename_i h1; rw [h1]; exact ⟨35, by kernel_rfl⟩
    ·split at h
     ·rename_i h1; rw [h1]; exact ⟨36, by kernel_rfl⟩
     ·split at h
      ·rename_i h1; rw [h1]; exact ⟨37, by kernel_rfl⟩
      ·split at h
       ·rename_i h1; rw [h1]; exact ⟨38, by kernel_rfl⟩
       ·cases h
theorem pcommand_any (w : World) (b : Nat) (mp : Value) (s : Pz) (H : PzAt w b mp s) (he : PEnv w) (hb : 7 ≤ b) (hm : MpAt w b mp) (lst : Pz → Cm × Pz) (hcp : (Pz.beginOf lst s.next.text).isSome = true → ∀ W, PzAt W b mp s → PEnv W → MpAt W b mp → Reads 99 b mp (Pz.compound lst) W s) (hfn : s.seesFunc = true → ∀ W, PzAt W b mp s → PEnv W → MpAt W b mp → Calls Tryz.prog 101 #[.pointer (some ⟨b, 0, none⟩), .func (.func 102) #[] #[]] W fun e w' => ∃ x : CV, e = .returned (.agg #[.int .i64 x.k, .bool x.no, .slice x.al x.nl x.cl, .slice x.aw x.nw x.cw, .slice x.ar x.nr x.cr, .slice x.ac x.nc x.cc, .string (BA x.nm), .bool x.ev, .slice x.ai x.ni x.ci]) ∧ Hid (Got W w' b mp (Pz.within (Pz.function lst) s) x)) : Reads 81 b mp (Pz.command lst) w s := by
 obtain ⟨W1, hW1⟩ : ∃ W1, W1 = w.alloc (.cells #[.int .i64 0, .bool false, .slice none 0 0, .slice none 0 0, .slice none 0 0, .slice none 0 0, .string ⟨#[]⟩, .bool false, .slice none 0 0] 33) := ⟨_, rfl⟩
 obtain ⟨nb, hnb⟩ : ∃ nb, nb = w.heap.size := ⟨_, rfl⟩
 have R1 : Hid (RS w W1 b nb mp 33 #[.int .i64 0, .bool false, .slice none 0 0, .slice none 0 0, .slice none 0 0, .slice none 0 0, .string ⟨#[]⟩, .bool false, .slice none 0 0] s) := hide (by rw [hW1, hnb]; exact rs_begin H he hb)
 have HM : Hid (∀ W, Fr w W b → MpAt W b mp) := hide (fun W h => hm.fr h)
 have HW1 := hide hW1
 have HNB := hide hnb
 obtain ⟨l, hl⟩ : ∃ l, l = s.next.text.data.toList := ⟨_, rfl⟩
 have htx : s.next.text = BA l := by rw [hl]; exact (BA_of _).symm
 have hlen : l.length ≤ 1000000 := by rw [hl, data_len]; exact lee H.ok.next.1 (by decide)
 obtain ⟨mb, hmb⟩ : ∃ mb, mp = .map (some mb) := by obtain ⟨mb, _, _, h1, _⟩ := hm; exact ⟨mb, h1⟩
 subst hmb
 have c1 : W1.cell? ⟨b, 1, none⟩ = some (.map (some mb)) := by obtain ⟨_, v, h1, _⟩ := (uh R1).pz; exact h1.cell 1 rfl
 have HNX : Hid (∀ W, Below W1.heap.size W1 W → Calls Tryz.prog 66 #[.pointer (some ⟨b, 0, none⟩)] W fun e w' => e = .returned (.agg #[.int .i64 s.next.kind, .string (BA l), .int .i64 s.next.pos, .string s.next.body, .bool s.next.raw]) ∧ w'.cell? ⟨b, 1, none⟩ = some (.map (some mb)) ∧ (Instr.lookup 42 (.map (some mb)) (.string (BA l)) false).run Tryz.prog w' = .ok (bgV l) w' ∧ Hid (Below W1.heap.size W1 w')) := hide (fun W hB => by
  have h := pnext_any W b (.map (some mb)) s ((uh R1).pz.below hB)
  unfold Tok.cells at h
  rw [htx] at h
  refine h.mono ?_
  rintro e w' ⟨rfl, b2⟩
  have hb2 := hB.trans (b2.mono hB.size)
  have r2 := (uh R1).below hb2
  obtain ⟨mb2, e2, e3⟩ := (uh HM w' r2.fr).look l hlen
  injection e2 with e2
  injection e2 with e2
  subst e2
  refine ⟨rfl, ?_, e3, hide hb2⟩
  obtain ⟨_, v, h1, _⟩ := r2.pz
  exact h1.cell 1 rfl)
 have hfd : ∀ W, (Instr.field 74 (.agg #[.int .i64 s.next.kind, .string (BA l), .int .i64 s.next.pos, .string s.next.body, .bool s.next.raw]) 1).run Tryz.prog W = .ok (.string (BA l)) W := fun W => by kernel_rfl
 unfold Reads
 obtain ⟨R, hR⟩ : ∃ R, R = s.command lst := ⟨_, rfl⟩
 rw [← hR]
 unfold Pz.command at hR
 cases hbo : (Pz.beginOf lst s.next.text).isSome with
 | true =>
   rw [hbo] at hR
   have HR : Hid (R = s.compound lst) := hide (by rw [hR]; rfl)
   obtain ⟨kk, hv⟩ := bg_some hbo
   rw [← hl] at hv
   rw [hv] at HNX
   have hcm : ∀ W, (binOp .neq 80 (.func (.func kk) #[] #[]) .nilFunc).run Tryz.prog W = .ok (.bool true) W := fun W => by kernel_rfl
   have HCP := hide (hcp hbo)
   clear hcp hfn hbo hv hR hW1 hnb H he hm hl htx
   go_enter Tryz.func81, Tryz.ntmps81
   go_upto_region 1 with fail
   rw [← uh HW1, ← uh HNB]
   clear HW1 HNB
   go_wp2_with fail
   go_region_held3 (fun w' => w'.cell? ⟨b, 1, none⟩ = some (.map (some mb))) (go_keep) ((go_at_call 66; refine (uh HNX _ (by first | exact Below.refl _ _ | exact below_drew' _ _)).mono ?_; rintro e wa ⟨rfl, a0, hlk, HBA⟩))
   have R2 := hide ((uh R1).below (uh HBA))
   have HWC := hide (uh HCP wa (uh R2).pz (uh R2).env (uh HM wa (uh R2).fr))
   have HSX : Hid (w.heap.size ≤ wa.heap.size ∧ nb < wa.heap.size) := hide ⟨(uh R2).fr.size, (uh R2).res.lt⟩
   unfold Reads at HWC
   clear a0 hlk HBA R1 HNX c1 HCP
   go_wp2_with fail
   refine (uh HWC).mono ?_
   rintro e w3 ⟨x, rfl, HG⟩
   have R2F := hide ((uh R2).step (uh HG).pz (uh HG).fr)
   have HFIN := hide ((uh R2F).fin (uh HG).cm (new_ne (uh HSX).1 (uh HSX).2))
   obtain ⟨z0, z1, z2, z3, z4, z5, z6, z7, z8⟩ := cel9 (uh R2F).res
   have zf : ∀ i, w3.frozen? ⟨nb, i, none⟩ = false := fun i => (uh R2F).res.frozen i
   clear R2F HG
   go_wp2
   refine bodyPost_ret (results_cell_row (P := Tryz.prog) rfl _ _ nb 33 _ (0, 0) _ rfl (uh HFIN).1 Tryz.underlying33 rfl (by kernel_rfl)) rfl ⟨x, rfl, hide (by rw [uh HR]; exact (uh HFIN).2)⟩
 | false =>
   rw [hbo] at hR
   have hv := bg_none (lst := lst) (t := s.next.text) (by cases hx : Pz.beginOf lst s.next.text with
    | none => rfl
    | some y => rw [hx] at hbo; cases hbo)
   rw [← hl] at hv
   rw [hv] at HNX
   have hcm : ∀ W, (binOp .neq 80 .nilFunc .nilFunc).run Tryz.prog W = .ok (.bool false) W := fun W => by kernel_rfl
   have HFN := hide hfn
   have HRR := hide hR
   clear hcp hfn hbo hv hR hW1 hnb H he hm hl htx
   go_enter Tryz.func81, Tryz.ntmps81
   go_upto_region 1 with fail
   rw [← uh HW1, ← uh HNB]
   clear HW1 HNB
   go_wp2_with fail
   go_region_held3 (fun w' => w'.cell? ⟨b, 1, none⟩ = some (.map (some mb))) (go_keep) ((go_at_call 66; refine (uh HNX _ (by first | exact Below.refl _ _ | exact below_drew' _ _)).mono ?_; rintro e wa ⟨rfl, a0, hlk, HBA⟩))
   have R2 := hide ((uh R1).below (uh HBA))
   have HSE : Hid (Calls Tryz.prog 41 #[.pointer (some ⟨b, 0, none⟩), .slice (some ⟨wa.heap.size, 0, none⟩) 9 9] (wa.alloc (.cells #[.string ⟨#[33]⟩, .string ⟨#[125]⟩, .string ⟨#[100, 111]⟩, .string ⟨#[100, 111, 110, 101]⟩, .string ⟨#[101, 108, 105, 102]⟩, .string ⟨#[101, 108, 115, 101]⟩, .string ⟨#[101, 115, 97, 99]⟩, .string ⟨#[102, 105]⟩, .string ⟨#[116, 104, 101, 110]⟩] 9)) fun e w' => e = .returned (.bool (s.sees reserved)) ∧ Below wa.heap.size wa w') := hide (psees_lit wa b (.map (some mb)) s reserved (uh R2).pz (by decide))
   clear a0 hlk HBA R1 HNX c1
   cases hse : s.sees reserved with
   | true =>
     rw [hse] at HSE
     have HR : Hid (R = (cm0, s.misfit)) := hide (by rw [uh HRR, hse]; rfl)
     clear hse HRR HFN
     go_wp2_with fail
     refine (uh HSE).mono ?_
     rintro e w3 ⟨rfl, b3⟩
     have R3 := hide ((uh R2).below b3)
     have HMF := hide (pmisfit_any w3 b (.map (some mb)) s (uh R3).pz)
     clear b3 R2 HSE
     go_wp2_with fail
     refine (uh HMF).mono ?_
     rintro e w4 ⟨rfl, p4, f4⟩
     have R4 := hide ((uh R3).step p4 f4)
     have HFIN := hide ((uh R4).fin (x := ⟨0, false, none, 0, 0, none, 0, 0, none, 0, 0, none, 0, 0, [], false, none, 0, 0⟩) (cm0_at w4 (fun _ => False)) (fun k hk => hk.elim))
     obtain ⟨z0, z1, z2, z3, z4, z5, z6, z7, z8⟩ := cel9 (uh R4).res
     have zf : ∀ i, w4.frozen? ⟨nb, i, none⟩ = false := fun i => (uh R4).res.frozen i
     clear p4 f4 R3 R4 HMF
     go_wp2
     refine bodyPost_ret (results_cell_row (P := Tryz.prog) rfl _ _ nb 33 _ (0, 0) _ rfl (uh HFIN).1 Tryz.underlying33 rfl (by kernel_rfl)) rfl ⟨⟨0, false, none, 0, 0, none, 0, 0, none, 0, 0, none, 0, 0, [], false, none, 0, 0⟩, rfl, hide (by rw [uh HR]; exact (uh HFIN).2)⟩
   | false =>
     rw [hse] at HSE
     have HNS := hide hse
     clear hse
     go_wp2_with fail
     refine (uh HSE).mono ?_
     rintro e w3 ⟨rfl, b3⟩
     have R3 := hide ((uh R2).below b3)
     have HSF := hide (pseesFunc_any w3 b (.map (some mb)) s (uh R3).pz)
     clear b3 R2 HSE
     cases hsf : s.seesFunc with
     | true =>
       rw [hsf] at HSF
       have HR : Hid (R = Pz.within (Pz.function lst) s) := hide (by rw [uh HRR, uh HNS, hsf]; rfl)
       have HFN2 := hide (uh HFN hsf)
       clear hsf HRR HFN HNS
       go_wp2_with fail
       refine (uh HSF).mono ?_
       rintro e w4 ⟨rfl, b4⟩
       have R4 := hide ((uh R3).below b4)
       have HWC := hide (uh HFN2 w4 (uh R4).pz (uh R4).env (uh HM w4 (uh R4).fr))
       have HSX : Hid (w.heap.size ≤ w4.heap.size ∧ nb < w4.heap.size) := hide ⟨(uh R4).fr.size, (uh R4).res.lt⟩
       clear b4 R3 HSF HFN2
       go_wp2_with fail
       refine (uh HWC).mono ?_
       rintro e w5 ⟨x, rfl, HG⟩
       have R4F := hide ((uh R4).step (uh HG).pz (uh HG).fr)
       have HFIN := hide ((uh R4F).fin (uh HG).cm (new_ne (uh HSX).1 (uh HSX).2))
       obtain ⟨z0, z1, z2, z3, z4, z5, z6, z7, z8⟩ := cel9 (uh R4F).res
       have zf : ∀ i, w5.frozen? ⟨nb, i, none⟩ = false := fun i => (uh R4F).res.frozen i
       clear R4F HG
       go_wp2
       refine bodyPost_ret (results_cell_row (P := Tryz.prog) rfl _ _ nb 33 _ (0, 0) _ rfl (uh HFIN).1 Tryz.underlying33 rfl (by kernel_rfl)) rfl ⟨x, rfl, hide (by rw [uh HR]; exact (uh HFIN).2)⟩
     | false =>
       rw [hsf] at HSF
       have HR : Hid (R = s.simple) := hide (by rw [uh HRR, uh HNS, hsf]; rfl)
       clear hsf HRR HFN HNS
       go_wp2_with fail
       refine (uh HSF).mono ?_
       rintro e w4 ⟨rfl, b4⟩
       have R4 := hide ((uh R3).below b4)
       have HWC := hide (psimple_rd w4 b (.map (some mb)) s (uh R4).pz (uh R4).env hb)
       have HSX : Hid (w.heap.size ≤ w4.heap.size ∧ nb < w4.heap.size) := hide ⟨(uh R4).fr.size, (uh R4).res.lt⟩
       unfold Reads at HWC
       clear b4 R3 HSF
       go_wp2_with fail
       refine (uh HWC).mono ?_
       rintro e w5 ⟨x, rfl, HG⟩
       have R4F := hide ((uh R4).step (uh HG).pz (uh HG).fr)
       have HFIN := hide ((uh R4F).fin (uh HG).cm (new_ne (uh HSX).1 (uh HSX).2))
       obtain ⟨z0, z1, z2, z3, z4, z5, z6, z7, z8⟩ := cel9 (uh R4F).res
       have zf : ∀ i, w5.frozen? ⟨nb, i, none⟩ = false := fun i => (uh R4F).res.frozen i
       clear R4F HG
       go_wp2
       refine bodyPost_ret (results_cell_row (P := Tryz.prog) rfl _ _ nb 33 _ (0, 0) _ rfl (uh HFIN).1 Tryz.underlying33 rfl (by kernel_rfl)) rfl ⟨x, rfl, hide (by rw [uh HR]; exact (uh HFIN).2)⟩
end Go.Proofs.YtojjfdobilkknaaGreatDoor

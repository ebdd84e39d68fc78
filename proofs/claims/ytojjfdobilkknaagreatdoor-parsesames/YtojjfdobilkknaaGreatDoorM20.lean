/- The parser's redirections: number, inPlace, redirection; its Lets.; The parser's redirection.; The parser's redirection in all cases; its Lets. -/
import Derived.Test.YtojjfdobilkknaaGreatDoorM19
import Derived.Deep.RegionHeld3
set_option maxRecDepth 20000
set_option maxHeartbeats 2000000
namespace Go.Proofs.YtojjfdobilkknaaGreatDoor
open Go.RowKit
theorem pnumber_any (w : World) (b : Nat) (mp : Value) (s : Pz) (H : PzAt w b mp s) : Calls Tryz.prog 140 #[.pointer (some ⟨b, 0, none⟩)] w fun e w' => e = .returned (.int .i64 s.number.1) ∧ PzAt w' b mp s.number.2 ∧ Fr w w' b := by
 have HTK := hide (ptake_any w b mp s H)
 have HSZ := hide H.ok.next.1
 obtain ⟨t, ht⟩ : ∃ t, t = s.next := ⟨_, rfl⟩
 have HNM : Hid (s.number.1 = (numN t.text.data.toList).1 ∧ s.number.2 = if (numN t.text.data.toList).2 = 0 then s.take else s.take.fail (numN t.text.data.toList).2 t.pos) := hide (by rw [ht]; exact ⟨rfl, rfl⟩)
 obtain ⟨s1, hs1⟩ : ∃ s1, s1 = s.take := ⟨_, rfl⟩
 rw [← ht, ← hs1] at HTK
 rw [← ht] at HSZ
 rw [← hs1] at HNM
 unfold Tok.cells at HTK
 have HNU := hide (fun W => cnumber_any t.text W (uh HSZ))
 obtain ⟨N, hN⟩ : ∃ N, N = numN t.text.data.toList := ⟨_, rfl⟩
 rw [← hN] at HNM HNU
 rw [(uh HNM).1]
 obtain ⟨S2, hS2⟩ : ∃ S2, S2 = s.number.2 := ⟨_, rfl⟩
 rw [← hS2] at HNM ⊢
 have HS2 := hide (uh HNM).2
 clear ht hs1 hN hS2 H HNM
 go_enter Tryz.func140, Tryz.ntmps140
 go_wp2_with fail
 refine (uh HTK).mono ?_
 rintro e w1 ⟨rfl, p1, f1⟩
 obtain ⟨W2, hW2⟩ : ∃ W2, W2 = w1.alloc (.cells #[.int .i64 t.kind, .string t.text, .int .i64 t.pos, .string t.body, .bool t.raw] 74) := ⟨_, rfl⟩
 obtain ⟨nt, hnt⟩ : ∃ nt, nt = w1.heap.size := ⟨_, rfl⟩
 have hb2 : Below w1.heap.size w1 W2 := by rw [hW2]; exact (Below.refl _ w1).alloc (ler _) _
 have kt : Blk W2 nt 74 #[.int .i64 t.kind, .string t.text, .int .i64 t.pos, .string t.body, .bool t.raw] := by rw [hW2, hnt]; exact Blk.new _ _ _
 have c1 : W2.cell? ⟨nt, 1, none⟩ = some (.string t.text) := kt.cell 1 rfl
 have c2 : W2.cell? ⟨nt, 2, none⟩ = some (.int .i64 t.pos) := kt.cell 2 rfl
 have HP := hide (p1.below hb2)
 have HF2 : Hid (Fr w W2 b) := hide (f1.trans' (fr_below hb2))
 have HW2 := hide hW2
 have HNT := hide hnt
 clear hW2 hnt hb2 kt p1 f1 HTK
 go_upto_region 2 with fail
 rw [← uh HW2, ← uh HNT]
 obtain ⟨N1, N2⟩ := N
 by_cases hz : N2 = 0
 ·subst hz
  have HR : Hid (PzAt W2 b mp S2 ∧ Fr w W2 b) := hide ⟨by rw [uh HS2, if_pos rfl]; exact uh HP, uh HF2⟩
  go_wp2_with fail
  refine (uh HNU W2).mono ?_
  rintro e w3 ⟨rfl, hw3⟩
  rw [show w3 = W2 from hw3]
  clear hw3
  go_wp2
  go_ret
  exact ⟨rfl, uh HR⟩
 ·have hz1 : (N2 == 0) = false := by simpa using hz
  have HFL := hide (pfail_any W2 b mp s1 N2 t.pos (uh HP))
  have HSE : Hid (S2 = s1.fail N2 t.pos) := hide (by rw [uh HS2, if_neg hz])
  clear hz
  go_wp2_with fail
  refine (uh HNU W2).mono ?_
  rintro e w3 ⟨rfl, hw3⟩
  rw [show w3 = W2 from hw3]
  clear hw3
  go_wp2_with fail
  refine (uh HFL).mono ?_
  rintro e w4 ⟨rfl, p4, f4⟩
  have HR : Hid (PzAt w4 b mp S2 ∧ Fr w w4 b) := hide ⟨by rw [uh HSE]; exact p4, (uh HF2).trans' f4⟩
  clear p4 f4
  go_wp2
  go_ret
  exact ⟨rfl, uh HR⟩
theorem wat_lit (w : World) (t : ByteArray) : WAt (w.alloc (.cells #[.int .i64 1, .string t, .bool true, .int .i64 0, .bool false, .slice none 0 0] 89)) (New w (w.alloc (.cells #[.int .i64 1, .string t, .bool true, .int .i64 0, .bool false, .slice none 0 0] 89))) (.slice (some ⟨w.heap.size, 0, none⟩) 1 1) [litP t.data.toList true] := by
 have hb := Blk.new w 89 #[.int .i64 1, .string t, .bool true, .int .i64 0, .bool false, .slice none 0 0]
 refine ⟨_, 1, rfl, by simp, .inr ⟨w.heap.size, 0, rfl, ⟨ler _, by simp⟩, ?_⟩⟩
 rw [PsAt_cons]
 refine ⟨?_, PsAt_nil _ _ _ _⟩
 unfold litP
 rw [PAt_mk]
 exact ⟨hb.cell 0 rfl, hb.cell 1 rfl, hb.cell 2 rfl, hb.cell 3 rfl, hb.cell 4 rfl, _, hb.cell 5 rfl, wat_nil _ _ _ _⟩
theorem pinPlace_any (w : World) (b : Nat) (mp : Value) (s : Pz) (o : Tok) (H : PzAt w b mp s) (he : WEnv w) (hb : 7 ≤ b) (ho : o.body.size ≤ 100000) : Calls Tryz.prog 142 #[.pointer (some ⟨b, 0, none⟩), .agg #[.int .i64 o.kind, .string o.text, .int .i64 o.pos, .string o.body, .bool o.raw]] w fun e w' => ∃ v, e = .returned v ∧ WAt w' (New w w') v (s.inPlace o).1 ∧ PzAt w' b mp (s.inPlace o).2 ∧ Fr w w' b := by
 obtain ⟨W1, hW1⟩ : ∃ W1, W1 = w.alloc (.cells #[.int .i64 o.kind, .string o.text, .int .i64 o.pos, .string o.body, .bool o.raw] 74) := ⟨_, rfl⟩
 obtain ⟨nb, hnb⟩ : ∃ nb, nb = w.heap.size := ⟨_, rfl⟩
 have hb1 : Below w.heap.size w W1 := by rw [hW1]; exact (Below.refl _ _).alloc (ler _) _
 have HKN : Hid (Blk W1 nb 74 #[.int .i64 o.kind, .string o.text, .int .i64 o.pos, .string o.body, .bool o.raw]) := hide (by rw [hW1, hnb]; exact Blk.new _ _ _)
 have HLT : Hid (b < nb) := hide (by rw [hnb]; exact H.lt)
 have HWW := hide (pwantWord_any W1 b mp s (H.below hb1))
 have HEN := hide he
 have HSZ : Hid (s.wantWord.1.text.size ≤ 100000) := hide (wantWord_ok H.ok)
 obtain ⟨s1, hs1⟩ : ∃ s1, s1 = s.wantWord.2 := ⟨_, rfl⟩
 have HIP : Hid (s.inPlace o = if o.raw then ([litP o.body.data.toList true], s1) else s1.parts 5 (BA o.body.data.toList) o.pos) := hide (by rw [hs1]; rfl)
 rw [← hs1] at HWW
 have HW1 := hide hW1
 have HNB := hide hnb
 have HB1 := hide hb1
 clear hW1 hnb hb1 hs1 H he
 cases hr : o.raw with
 | true =>
   rw [hr] at HKN HW1
   rw [uh HIP, hr, if_pos rfl]
   clear HIP hr
   go_enter Tryz.func142, Tryz.ntmps142
   go_upto_region 1 with fail
   rw [← uh HW1, ← uh HNB]
   go_wp2_with fail
   refine (uh HWW).mono ?_
   rintro e w2 ⟨rfl, p2, f2⟩
   have kn := (uh HKN).grownS f2 (fun e => by have := uh HLT; omega)
   have c3 : w2.cell? ⟨nb, 3, none⟩ = some (.string o.body) := kn.cell 3 rfl
   have c4 : w2.cell? ⟨nb, 4, none⟩ = some (.bool true) := kn.cell 4 rfl
   have HP := hide p2
   have HF : Hid (Fr w w2 b) := hide ((fr_below (uh HB1)).trans' f2)
   have HR : Hid (WAt (w2.alloc (.cells #[.int .i64 1, .string o.body, .bool true, .int .i64 0, .bool false, .slice none 0 0] 89)) (New w (w2.alloc (.cells #[.int .i64 1, .string o.body, .bool true, .int .i64 0, .bool false, .slice none 0 0] 89))) (.slice (some ⟨w2.heap.size, 0, none⟩) 1 1) [litP o.body.data.toList true] ∧ PzAt (w2.alloc (.cells #[.int .i64 1, .string o.body, .bool true, .int .i64 0, .bool false, .slice none 0 0] 89)) b mp s1 ∧ Fr w (w2.alloc (.cells #[.int .i64 1, .string o.body, .bool true, .int .i64 0, .bool false, .slice none 0 0] 89)) b) := hide (by
    have hb3 : Below w2.heap.size w2 (w2.alloc (.cells #[.int .i64 1, .string o.body, .bool true, .int .i64 0, .bool false, .slice none 0 0] 89)) := (Below.refl _ _).alloc (ler _) _
    exact ⟨(wat_lit w2 o.body).older (uh HF).size, (uh HP).below hb3, (uh HF).trans' (fr_below hb3)⟩)
   clear p2 f2 kn
   go_wp2
   go_ret
   exact ⟨_, rfl, uh HR⟩
 | false =>
   rw [hr] at HKN HW1
   rw [uh HIP, hr, if_neg (by decide), BA_of]
   clear HIP hr
   go_enter Tryz.func142, Tryz.ntmps142
   go_upto_region 1 with fail
   rw [← uh HW1, ← uh HNB]
   go_wp2_with fail
   refine (uh HWW).mono ?_
   rintro e w2 ⟨rfl, p2, f2⟩
   have kn := (uh HKN).grownS f2 (fun e => by have := uh HLT; omega)
   have c2 : w2.cell? ⟨nb, 2, none⟩ = some (.int .i64 o.pos) := kn.cell 2 rfl
   have c3 : w2.cell? ⟨nb, 3, none⟩ = some (.string o.body) := kn.cell 3 rfl
   have c4 : w2.cell? ⟨nb, 4, none⟩ = some (.bool false) := kn.cell 4 rfl
   have hf : Fr w w2 b := (fr_below (uh HB1)).trans' f2
   have HPT := hide (pparts_5 w2 b mp s1 o.body.data.toList o.pos p2 ((uh HEN).fr hf hb) (by rw [data_len]; exact ho))
   rw [BA_of] at HPT
   have HF := hide hf
   clear p2 f2 kn hf
   go_wp2_with fail
   refine (uh HPT).mono ?_
   rintro e w3 ⟨v, rfl, hw, p3, f3⟩
   have HR := hide (And.intro (hw.older (uh HF).size) (And.intro p3 ((uh HF).trans' f3)))
   obtain ⟨ad, cap, hv, _⟩ := hw.len
   subst hv
   clear hw p3 f3
   go_wp2
   go_ret
   exact ⟨_, rfl, uh HR⟩
structure RS (w W : World) (b nb : Nat) (mp : Value) (t : TypeId) (z : Array Value) (s : Pz) : Prop where
 fr : Fr w W b
 res : Blk W nb t z
 pz : PzAt W b mp s
 env : PEnv W
 new : w.heap.size ≤ nb
 lt : b < nb
 old : 7 ≤ b
theorem RS.step {w W W' : World} {b nb : Nat} {mp : Value} {t : TypeId} {z : Array Value} {s s' : Pz} (h : RS w W b nb mp t z s) (hp : PzAt W' b mp s') (hf : Fr W W' b) : RS w W' b nb mp t z s' :=
 ⟨h.fr.trans' hf, h.res.grownS hf (fun e => by have := h.lt; omega), hp, h.env.fr hf h.old, h.new, h.lt, h.old⟩
theorem RS.below {w W W' : World} {b nb : Nat} {mp : Value} {t : TypeId} {z : Array Value} {s : Pz} (h : RS w W b nb mp t z s) (hb : Below W.heap.size W W') : RS w W' b nb mp t z s := h.step (h.pz.below hb) (fr_below hb)
theorem RS.turn {w W W' : World} {b nb g : Nat} {mp : Value} {t : TypeId} {z : Array Value} {s : Pz} (h : RS w W b nb mp t z s) (hg : GrownS W W' (fun k => k = g)) (hn : nb < g) : RS w W' b nb mp t z s :=
 ⟨((leg_fr h.fr).trans (leg_new hg (lee h.new (lel hn)))).fr, h.res.grownS hg (by omega), h.pz.grownS hg (fun k e => by have := h.lt; omega), h.env.grown hg (fun k e => by have := h.lt; have := h.old; omega), h.new, h.lt, h.old⟩
theorem next_body {s : Pz} (h : PzOk s) : s.next.body.size ≤ 100000 := h.next.2
theorem redir_end {w W9 : World} {b nb nr : Nat} {mp v : Value} {s : Pz} {wd : Wd} {m : Nat} (f k : Int) (h : RS w W9 b nb mp 38 #[.int .i64 0, .int .i64 0, .slice none 0 0] s) (hn : nb < nr) (hm : nr < m) (hw : WAt W9 (fun j => m ≤ j ∧ j < W9.heap.size) v wd) :
 Blk ((((W9.setCell ⟨nr, 2, none⟩ v).setCell ⟨nb, 0, none⟩ (.int .i64 f)).setCell ⟨nb, 1, none⟩ (.int .i64 k)).setCell ⟨nb, 2, none⟩ v) nb 38 #[.int .i64 f, .int .i64 k, v] ∧ WAt ((((W9.setCell ⟨nr, 2, none⟩ v).setCell ⟨nb, 0, none⟩ (.int .i64 f)).setCell ⟨nb, 1, none⟩ (.int .i64 k)).setCell ⟨nb, 2, none⟩ v) (New w ((((W9.setCell ⟨nr, 2, none⟩ v).setCell ⟨nb, 0, none⟩ (.int .i64 f)).setCell ⟨nb, 1, none⟩ (.int .i64 k)).setCell ⟨nb, 2, none⟩ v)) v wd ∧ PzAt ((((W9.setCell ⟨nr, 2, none⟩ v).setCell ⟨nb, 0, none⟩ (.int .i64 f)).setCell ⟨nb, 1, none⟩ (.int .i64 k)).setCell ⟨nb, 2, none⟩ v) b mp s ∧ Fr w ((((W9.setCell ⟨nr, 2, none⟩ v).setCell ⟨nb, 0, none⟩ (.int .i64 f)).setCell ⟨nb, 1, none⟩ (.int .i64 k)).setCell ⟨nb, 2, none⟩ v) b := by
 have g1 := fr_set W9 nr 2 v
 have h1 := h.turn g1 hn
 have g2 : GrownS (W9.setCell ⟨nr, 2, none⟩ v) ((((W9.setCell ⟨nr, 2, none⟩ v).setCell ⟨nb, 0, none⟩ (.int .i64 f)).setCell ⟨nb, 1, none⟩ (.int .i64 k)).setCell ⟨nb, 2, none⟩ v) (fun j => j = nb) := ((fr_set _ nb 0 _).trans (fr_set _ nb 1 _)).trans (fr_set _ nb 2 _)
 refine ⟨((h1.res.set 0 _).set 1 _).set 2 _, ?_, h1.pz.grownS g2 (fun j e => by have := h.lt; omega), ((leg_fr h1.fr).trans (leg_new g2 h.new)).fr⟩
 refine hw.kept (fun j hj => ?_) (fun j hj => ⟨by have := h.new; omega, lle hj.2 (lee g1.size g2.size)⟩)
 rw [g2.block j (lle hj.2 g1.size) (by omega), g1.block j hj.2 (by omega)]
theorem number_ok {s : Pz} (h : PzOk s) : PzOk s.number.2 := by
 unfold Pz.number
 simp only
 split
 ·exact h.take
 ·exact h.take.fail _ _
theorem predir_pw (w : World) (b : Nat) (mp : Value) (s : Pz) (H : PzAt w b mp s) (he : PEnv w) (hb : 7 ≤ b) (h4 : s.next.kind ≠ 4) (h6 : (redirOf (s).next.text).2 ≠ 6) : Calls Tryz.prog 125 #[.pointer (some ⟨b, 0, none⟩)] w fun e w' => ∃ v, e = .returned (.agg #[.int .i64 s.redir.1.1, .int .i64 s.redir.1.2.1, v]) ∧ WAt w' (New w w') v s.redir.1.2.2 ∧ PzAt w' b mp s.redir.2 ∧ Fr w w' b := by
 obtain ⟨W1, hW1⟩ : ∃ W1, W1 = w.alloc (.cells #[.int .i64 0, .int .i64 0, .slice none 0 0] 38) := ⟨_, rfl⟩
 obtain ⟨nb, hnb⟩ : ∃ nb, nb = w.heap.size := ⟨_, rfl⟩
 have hb1 : Below w.heap.size w W1 := by rw [hW1]; exact (Below.refl _ _).alloc (ler _) _
 have R1 : Hid (RS w W1 b nb mp 38 #[.int .i64 0, .int .i64 0, .slice none 0 0] s) := hide ⟨fr_below hb1, by rw [hW1, hnb]; exact Blk.new _ _ _, H.below hb1, he.below hb1, by rw [hnb]; exact ler _, by rw [hnb]; exact H.lt, hb⟩
 have HNX := hide (pnext_any W1 b mp s (uh R1).pz)
 unfold Tok.cells at HNX
 have HFD := hide (fld_tok0 s.next)
 obtain ⟨s1, hs1⟩ : ∃ s1, s1 = s := ⟨_, rfl⟩
 obtain ⟨o, ho⟩ : ∃ o, o = s1.next := ⟨_, rfl⟩
 obtain ⟨s2, hs2⟩ : ∃ s2, s2 = s1.take := ⟨_, rfl⟩
 obtain ⟨rf, hrf⟩ : ∃ rf, rf = redirOf o.text := ⟨_, rfl⟩
 obtain ⟨fd, hfd⟩ : ∃ fd, fd = rf.1 := ⟨_, rfl⟩
 have h6' : rf.2 ≠ 6 := by rw [hrf, ho, hs1]; exact h6
 have HRE : Hid (s.redir = ((fd, rf.2, (s2.word).1), (s2.word).2)) := hide (by
  unfold Pz.redir
  simp only [decide_eq_false h4, if_false, Bool.false_eq_true]
  rw [show (redirOf (s).next.text).2 = rf.2 by rw [hrf, ho, hs1]]
  simp only [if_neg h6']
  rw [hfd, hrf, hs2, ho, hs1])
 rw [uh HRE]
 have H6 := hide h6'
 have HS1 := hide hs1
 have HOE := hide ho
 have HS2 := hide hs2
 have HRF := hide hrf
 have HFE := hide hfd
 have HW1 := hide hW1
 have HNB := hide hnb
 clear hW1 hnb hb1 hs1 ho hs2 hrf hfd H he h6 h6' HRE
 go_enter Tryz.func125, Tryz.ntmps125
 go_upto_region 1 with fail
 rw [← uh HW1, ← uh HNB]
 go_wp2_with fail
 refine (uh HNX).mono ?_
 rintro e w2 ⟨rfl, b2⟩
 have R2 := hide ((uh R1).below b2)
 have hf0 := uh HFD w2
 have h4b : (s.next.kind == 4) = false := by simpa using h4
 have R3 := R2
 rw [← uh HS1] at R3
 clear b2 HNX
 go_wp2_with fail
 refine (ptake_any _ b mp s1 (uh R3).pz).mono ?_
 rintro e w4 ⟨rfl, p4, f4⟩
 rw [← uh HS2] at p4
 rw [← uh HOE]
 have r4 := (uh R3).step p4 f4
 unfold Tok.cells
 obtain ⟨W5, hW5⟩ : ∃ W5, W5 = w4.alloc (.cells #[.int .i64 o.kind, .string o.text, .int .i64 o.pos, .string o.body, .bool o.raw] 74) := ⟨_, rfl⟩
 obtain ⟨no, hno⟩ : ∃ no, no = w4.heap.size := ⟨_, rfl⟩
 have hb5 : Below w4.heap.size w4 W5 := by rw [hW5]; exact (Below.refl _ w4).alloc (ler _) _
 have ko : Blk W5 no 74 #[.int .i64 o.kind, .string o.text, .int .i64 o.pos, .string o.body, .bool o.raw] := by rw [hW5, hno]; exact Blk.new _ _ _
 have R5 := hide (r4.below hb5)
 have HNO : Hid (nb < no) := hide (by rw [hno]; exact r4.res.lt)
 have c1 : W5.cell? ⟨no, 1, none⟩ = some (.string o.text) := ko.cell 1 rfl
 have HKO := hide ko
 have HRO := hide (redirectionOf_any o.text W5 (uh R5).env)
 rw [← uh HRF] at HRO
 have HW5 := hide hW5
 have HNOE := hide hno
 clear hW5 hno hb5 ko p4 f4 r4 R3
 go_upto_region 6 with fail
 rw [← uh HW5, ← uh HNOE]
 clear HW5 HNOE
 go_wp2_with fail
 refine (uh HRO).mono ?_
 rintro e w6 ⟨rfl, b6⟩
 have r6 := (uh R5).below b6
 have ko6 := (uh HKO).below b6 (uh HKO).lt
 obtain ⟨W7, hW7⟩ : ∃ W7, W7 = w6.alloc (.cells #[.int .i64 rf.1, .int .i64 rf.2, .slice none 0 0] 38) := ⟨_, rfl⟩
 obtain ⟨nr, hnr⟩ : ∃ nr, nr = w6.heap.size := ⟨_, rfl⟩
 have hb7 : Below w6.heap.size w6 W7 := by rw [hW7]; exact (Below.refl _ w6).alloc (ler _) _
 have kr : Blk W7 nr 38 #[.int .i64 rf.1, .int .i64 rf.2, .slice none 0 0] := by rw [hW7, hnr]; exact Blk.new _ _ _
 have R7 := hide (r6.below hb7)
 have HKO7 := hide (ko6.below hb7 ko6.lt)
 have HKR := hide kr
 have HNR : Hid (nb < nr ∧ no < nr ∧ nr < W7.heap.size) := hide ⟨by rw [hnr]; exact r6.res.lt, by rw [hnr]; exact ko6.lt, kr.lt⟩
 have HW7 := hide hW7
 have HNRE := hide hnr
 clear hW7 hnr hb7 kr r6 ko6 b6 R5 HKO c1 HRO
 go_upto_region 7 with fail
 rw [← uh HW7, ← uh HNRE]
 clear HW7 HNRE
 obtain ⟨W8, hW8⟩ : ∃ W8, W8 = W7 := ⟨_, rfl⟩
 rw [← hW8]
 rw [← uh HFE] at HKR
 have HKR8 := HKR
 have R8 := R7
 have HKO8 := HKO7
 rw [← hW8] at HKR8 R8 HKO8
 clear hW8 R7 HKR HKO7
 have kr8 := uh HKR8
 have d0 : W8.cell? ⟨nr, 0, none⟩ = some (.int .i64 fd) := kr8.cell 0 rfl
 have d1 : W8.cell? ⟨nr, 1, none⟩ = some (.int .i64 rf.2) := kr8.cell 1 rfl
 have o0 : W8.cell? ⟨no, 0, none⟩ = some (.int .i64 o.kind) := (uh HKO8).cell 0 rfl
 have o1 : W8.cell? ⟨no, 1, none⟩ = some (.string o.text) := (uh HKO8).cell 1 rfl
 have o2 : W8.cell? ⟨no, 2, none⟩ = some (.int .i64 o.pos) := (uh HKO8).cell 2 rfl
 have o3 : W8.cell? ⟨no, 3, none⟩ = some (.string o.body) := (uh HKO8).cell 3 rfl
 have o4 : W8.cell? ⟨no, 4, none⟩ = some (.bool o.raw) := (uh HKO8).cell 4 rfl
 have HWD := hide (pword_any W8 b mp s2 (uh R8).pz (uh R8).env.we hb)
 have h6b : (rf.2 == 6) = false := by simpa using uh H6
 clear kr8
 go_wp2_with fail
 refine (uh HWD).mono ?_
 rintro e w9 ⟨v, rfl, hw, p9, f9⟩
 have r9 := (uh R8).step p9 f9
 have kr9 := (uh HKR8).grownS f9 (fun e => by have := (uh R8).lt; have := (uh HNR).1; omega)
 have HEND := hide (redir_end (m := W8.heap.size) fd rf.2 r9 (uh HNR).1 (uh HKR8).lt hw)
 obtain ⟨ad, cap, hv, _⟩ := hw.len
 subst hv
 have y0 : w9.cell? ⟨nb, 0, none⟩ = some (.int .i64 0) := r9.res.cell 0 rfl
 have y1 : w9.cell? ⟨nb, 1, none⟩ = some (.int .i64 0) := r9.res.cell 1 rfl
 have y2 : w9.cell? ⟨nb, 2, none⟩ = some (.slice none 0 0) := r9.res.cell 2 rfl
 have yf : ∀ i, w9.frozen? ⟨nb, i, none⟩ = false := fun i => r9.res.frozen i
 have z0 : w9.cell? ⟨nr, 0, none⟩ = some (.int .i64 fd) := kr9.cell 0 rfl
 have z1 : w9.cell? ⟨nr, 1, none⟩ = some (.int .i64 rf.2) := kr9.cell 1 rfl
 have z2 : w9.cell? ⟨nr, 2, none⟩ = some (.slice none 0 0) := kr9.cell 2 rfl
 have zf : ∀ i, w9.frozen? ⟨nr, i, none⟩ = false := fun i => kr9.frozen i
 have hne : nb ≠ nr := Nat.ne_of_lt (uh HNR).1
 clear hw p9 f9 r9 kr9 d0 d1 o0 o1 o2 o3 o4
 go_wp2
 refine bodyPost_ret (results_cell_row (P := Tryz.prog) rfl _ _ nb 38 _ (0, 0) _ rfl (uh HEND).1 Tryz.underlying38 rfl (by kernel_rfl)) rfl ⟨_, rfl, (uh HEND).2⟩
theorem predir_ph (w : World) (b : Nat) (mp : Value) (s : Pz) (H : PzAt w b mp s) (he : PEnv w) (hb : 7 ≤ b) (h4 : s.next.kind ≠ 4) (h6 : (redirOf (s).next.text).2 = 6) : Calls Tryz.prog 125 #[.pointer (some ⟨b, 0, none⟩)] w fun e w' => ∃ v, e = .returned (.agg #[.int .i64 s.redir.1.1, .int .i64 s.redir.1.2.1, v]) ∧ WAt w' (New w w') v s.redir.1.2.2 ∧ PzAt w' b mp s.redir.2 ∧ Fr w w' b := by
 obtain ⟨W1, hW1⟩ : ∃ W1, W1 = w.alloc (.cells #[.int .i64 0, .int .i64 0, .slice none 0 0] 38) := ⟨_, rfl⟩
 obtain ⟨nb, hnb⟩ : ∃ nb, nb = w.heap.size := ⟨_, rfl⟩
 have hb1 : Below w.heap.size w W1 := by rw [hW1]; exact (Below.refl _ _).alloc (ler _) _
 have R1 : Hid (RS w W1 b nb mp 38 #[.int .i64 0, .int .i64 0, .slice none 0 0] s) := hide ⟨fr_below hb1, by rw [hW1, hnb]; exact Blk.new _ _ _, H.below hb1, he.below hb1, by rw [hnb]; exact ler _, by rw [hnb]; exact H.lt, hb⟩
 have HNX := hide (pnext_any W1 b mp s (uh R1).pz)
 unfold Tok.cells at HNX
 have HFD := hide (fld_tok0 s.next)
 have HOK : PzOk (s) := H.ok
 obtain ⟨s1, hs1⟩ : ∃ s1, s1 = s := ⟨_, rfl⟩
 obtain ⟨o, ho⟩ : ∃ o, o = s1.next := ⟨_, rfl⟩
 obtain ⟨s2, hs2⟩ : ∃ s2, s2 = s1.take := ⟨_, rfl⟩
 obtain ⟨rf, hrf⟩ : ∃ rf, rf = redirOf o.text := ⟨_, rfl⟩
 obtain ⟨fd, hfd⟩ : ∃ fd, fd = rf.1 := ⟨_, rfl⟩
 have h6' : rf.2 = 6 := by rw [hrf, ho, hs1]; exact h6
 have HRE : Hid (s.redir = ((fd, rf.2, (s2.inPlace o).1), (s2.inPlace o).2)) := hide (by
  unfold Pz.redir
  simp only [decide_eq_false h4, if_false, Bool.false_eq_true]
  rw [show (redirOf (s).next.text).2 = rf.2 by rw [hrf, ho, hs1]]
  simp only [if_pos h6']
  rw [hfd, hrf, hs2, ho, hs1])
 rw [uh HRE]
 have H6 := hide h6'
 have HS1 := hide hs1
 have HOE := hide ho
 have HS2 := hide hs2
 have HRF := hide hrf
 have HFE := hide hfd
 have HW1 := hide hW1
 have HNB := hide hnb
 clear hW1 hnb hb1 hs1 ho hs2 hrf hfd H he h6 h6' HRE
 go_enter Tryz.func125, Tryz.ntmps125
 go_upto_region 1 with fail
 rw [← uh HW1, ← uh HNB]
 go_wp2_with fail
 refine (uh HNX).mono ?_
 rintro e w2 ⟨rfl, b2⟩
 have R2 := hide ((uh R1).below b2)
 have hf0 := uh HFD w2
 have h4b : (s.next.kind == 4) = false := by simpa using h4
 have R3 := R2
 rw [← uh HS1] at R3
 clear b2 HNX
 go_wp2_with fail
 refine (ptake_any _ b mp s1 (uh R3).pz).mono ?_
 rintro e w4 ⟨rfl, p4, f4⟩
 rw [← uh HS2] at p4
 rw [← uh HOE]
 have r4 := (uh R3).step p4 f4
 unfold Tok.cells
 obtain ⟨W5, hW5⟩ : ∃ W5, W5 = w4.alloc (.cells #[.int .i64 o.kind, .string o.text, .int .i64 o.pos, .string o.body, .bool o.raw] 74) := ⟨_, rfl⟩
 obtain ⟨no, hno⟩ : ∃ no, no = w4.heap.size := ⟨_, rfl⟩
 have hb5 : Below w4.heap.size w4 W5 := by rw [hW5]; exact (Below.refl _ w4).alloc (ler _) _
 have ko : Blk W5 no 74 #[.int .i64 o.kind, .string o.text, .int .i64 o.pos, .string o.body, .bool o.raw] := by rw [hW5, hno]; exact Blk.new _ _ _
 have R5 := hide (r4.below hb5)
 have HNO : Hid (nb < no) := hide (by rw [hno]; exact r4.res.lt)
 have c1 : W5.cell? ⟨no, 1, none⟩ = some (.string o.text) := ko.cell 1 rfl
 have HKO := hide ko
 have HRO := hide (redirectionOf_any o.text W5 (uh R5).env)
 rw [← uh HRF] at HRO
 have HW5 := hide hW5
 have HNOE := hide hno
 clear hW5 hno hb5 ko p4 f4 r4 R3
 go_upto_region 6 with fail
 rw [← uh HW5, ← uh HNOE]
 clear HW5 HNOE
 go_wp2_with fail
 refine (uh HRO).mono ?_
 rintro e w6 ⟨rfl, b6⟩
 have r6 := (uh R5).below b6
 have ko6 := (uh HKO).below b6 (uh HKO).lt
 obtain ⟨W7, hW7⟩ : ∃ W7, W7 = w6.alloc (.cells #[.int .i64 rf.1, .int .i64 rf.2, .slice none 0 0] 38) := ⟨_, rfl⟩
 obtain ⟨nr, hnr⟩ : ∃ nr, nr = w6.heap.size := ⟨_, rfl⟩
 have hb7 : Below w6.heap.size w6 W7 := by rw [hW7]; exact (Below.refl _ w6).alloc (ler _) _
 have kr : Blk W7 nr 38 #[.int .i64 rf.1, .int .i64 rf.2, .slice none 0 0] := by rw [hW7, hnr]; exact Blk.new _ _ _
 have R7 := hide (r6.below hb7)
 have HKO7 := hide (ko6.below hb7 ko6.lt)
 have HKR := hide kr
 have HNR : Hid (nb < nr ∧ no < nr ∧ nr < W7.heap.size) := hide ⟨by rw [hnr]; exact r6.res.lt, by rw [hnr]; exact ko6.lt, kr.lt⟩
 have HW7 := hide hW7
 have HNRE := hide hnr
 clear hW7 hnr hb7 kr r6 ko6 b6 R5 HKO c1 HRO
 go_upto_region 7 with fail
 rw [← uh HW7, ← uh HNRE]
 clear HW7 HNRE
 obtain ⟨W8, hW8⟩ : ∃ W8, W8 = W7 := ⟨_, rfl⟩
 rw [← hW8]
 rw [← uh HFE] at HKR
 have HKR8 := HKR
 have R8 := R7
 have HKO8 := HKO7
 rw [← hW8] at HKR8 R8 HKO8
 clear hW8 R7 HKR HKO7
 have kr8 := uh HKR8
 have d0 : W8.cell? ⟨nr, 0, none⟩ = some (.int .i64 fd) := kr8.cell 0 rfl
 have d1 : W8.cell? ⟨nr, 1, none⟩ = some (.int .i64 rf.2) := kr8.cell 1 rfl
 have o0 : W8.cell? ⟨no, 0, none⟩ = some (.int .i64 o.kind) := (uh HKO8).cell 0 rfl
 have o1 : W8.cell? ⟨no, 1, none⟩ = some (.string o.text) := (uh HKO8).cell 1 rfl
 have o2 : W8.cell? ⟨no, 2, none⟩ = some (.int .i64 o.pos) := (uh HKO8).cell 2 rfl
 have o3 : W8.cell? ⟨no, 3, none⟩ = some (.string o.body) := (uh HKO8).cell 3 rfl
 have o4 : W8.cell? ⟨no, 4, none⟩ = some (.bool o.raw) := (uh HKO8).cell 4 rfl
 have HWD := hide (pinPlace_any W8 b mp s2 o (uh R8).pz (uh R8).env.we hb (by rw [uh HOE, uh HS1]; exact next_body HOK))
 rw [uh H6] at d1
 clear kr8
 go_wp2_with fail
 refine (uh HWD).mono ?_
 rintro e w9 ⟨v, rfl, hw, p9, f9⟩
 have r9 := (uh R8).step p9 f9
 have kr9 := (uh HKR8).grownS f9 (fun e => by have := (uh R8).lt; have := (uh HNR).1; omega)
 have HEND := hide (redir_end (m := W8.heap.size) fd rf.2 r9 (uh HNR).1 (uh HKR8).lt hw)
 obtain ⟨ad, cap, hv, _⟩ := hw.len
 subst hv
 have y0 : w9.cell? ⟨nb, 0, none⟩ = some (.int .i64 0) := r9.res.cell 0 rfl
 have y1 : w9.cell? ⟨nb, 1, none⟩ = some (.int .i64 0) := r9.res.cell 1 rfl
 have y2 : w9.cell? ⟨nb, 2, none⟩ = some (.slice none 0 0) := r9.res.cell 2 rfl
 have yf : ∀ i, w9.frozen? ⟨nb, i, none⟩ = false := fun i => r9.res.frozen i
 have z0 : w9.cell? ⟨nr, 0, none⟩ = some (.int .i64 fd) := kr9.cell 0 rfl
 have z1 : w9.cell? ⟨nr, 1, none⟩ = some (.int .i64 rf.2) := kr9.cell 1 rfl
 have z2 : w9.cell? ⟨nr, 2, none⟩ = some (.slice none 0 0) := kr9.cell 2 rfl
 have zf : ∀ i, w9.frozen? ⟨nr, i, none⟩ = false := fun i => kr9.frozen i
 have hne : nb ≠ nr := Nat.ne_of_lt (uh HNR).1
 clear hw p9 f9 r9 kr9 d0 d1 o0 o1 o2 o3 o4
 go_wp2
 refine bodyPost_ret (results_cell_row (P := Tryz.prog) rfl _ _ nb 38 _ (0, 0) _ rfl (uh HEND).1 Tryz.underlying38 rfl (by kernel_rfl)) rfl ⟨_, rfl, (uh HEND).2⟩
theorem predir_nw (w : World) (b : Nat) (mp : Value) (s : Pz) (H : PzAt w b mp s) (he : PEnv w) (hb : 7 ≤ b) (h4 : s.next.kind = 4) (h6 : (redirOf (s.number.2).next.text).2 ≠ 6) : Calls Tryz.prog 125 #[.pointer (some ⟨b, 0, none⟩)] w fun e w' => ∃ v, e = .returned (.agg #[.int .i64 s.redir.1.1, .int .i64 s.redir.1.2.1, v]) ∧ WAt w' (New w w') v s.redir.1.2.2 ∧ PzAt w' b mp s.redir.2 ∧ Fr w w' b := by
 obtain ⟨W1, hW1⟩ : ∃ W1, W1 = w.alloc (.cells #[.int .i64 0, .int .i64 0, .slice none 0 0] 38) := ⟨_, rfl⟩
 obtain ⟨nb, hnb⟩ : ∃ nb, nb = w.heap.size := ⟨_, rfl⟩
 have hb1 : Below w.heap.size w W1 := by rw [hW1]; exact (Below.refl _ _).alloc (ler _) _
 have R1 : Hid (RS w W1 b nb mp 38 #[.int .i64 0, .int .i64 0, .slice none 0 0] s) := hide ⟨fr_below hb1, by rw [hW1, hnb]; exact Blk.new _ _ _, H.below hb1, he.below hb1, by rw [hnb]; exact ler _, by rw [hnb]; exact H.lt, hb⟩
 have HNX := hide (pnext_any W1 b mp s (uh R1).pz)
 unfold Tok.cells at HNX
 have HFD := hide (fld_tok0 s.next)
 obtain ⟨s1, hs1⟩ : ∃ s1, s1 = s.number.2 := ⟨_, rfl⟩
 obtain ⟨o, ho⟩ : ∃ o, o = s1.next := ⟨_, rfl⟩
 obtain ⟨s2, hs2⟩ : ∃ s2, s2 = s1.take := ⟨_, rfl⟩
 obtain ⟨rf, hrf⟩ : ∃ rf, rf = redirOf o.text := ⟨_, rfl⟩
 obtain ⟨fd, hfd⟩ : ∃ fd, fd = s.number.1 := ⟨_, rfl⟩
 have h6' : rf.2 ≠ 6 := by rw [hrf, ho, hs1]; exact h6
 have HRE : Hid (s.redir = ((fd, rf.2, (s2.word).1), (s2.word).2)) := hide (by
  unfold Pz.redir
  simp only [decide_eq_true h4, if_true]
  rw [show (redirOf (s.number.2).next.text).2 = rf.2 by rw [hrf, ho, hs1]]
  simp only [if_neg h6']
  rw [hfd, hrf, hs2, ho, hs1])
 rw [uh HRE]
 have H6 := hide h6'
 have HS1 := hide hs1
 have HOE := hide ho
 have HS2 := hide hs2
 have HRF := hide hrf
 have HFE := hide hfd
 have HW1 := hide hW1
 have HNB := hide hnb
 clear hW1 hnb hb1 hs1 ho hs2 hrf hfd H he h6 h6' HRE
 go_enter Tryz.func125, Tryz.ntmps125
 go_upto_region 1 with fail
 rw [← uh HW1, ← uh HNB]
 go_wp2_with fail
 refine (uh HNX).mono ?_
 rintro e w2 ⟨rfl, b2⟩
 have R2 := hide ((uh R1).below b2)
 have hf0 := uh HFD w2
 rw [h4] at hf0
 clear b2 HNX
 go_wp2_with fail
 refine (pnumber_any w2 b mp s (uh R2).pz).mono ?_
 rintro e w3 ⟨rfl, p3, f3⟩
 rw [← uh HS1] at p3
 have R3 := hide ((uh R2).step p3 f3)
 clear p3 f3 R2 hf0
 go_wp2_with fail
 refine (ptake_any _ b mp s1 (uh R3).pz).mono ?_
 rintro e w4 ⟨rfl, p4, f4⟩
 rw [← uh HS2] at p4
 rw [← uh HOE]
 have r4 := (uh R3).step p4 f4
 unfold Tok.cells
 obtain ⟨W5, hW5⟩ : ∃ W5, W5 = w4.alloc (.cells #[.int .i64 o.kind, .string o.text, .int .i64 o.pos, .string o.body, .bool o.raw] 74) := ⟨_, rfl⟩
 obtain ⟨no, hno⟩ : ∃ no, no = w4.heap.size := ⟨_, rfl⟩
 have hb5 : Below w4.heap.size w4 W5 := by rw [hW5]; exact (Below.refl _ w4).alloc (ler _) _
 have ko : Blk W5 no 74 #[.int .i64 o.kind, .string o.text, .int .i64 o.pos, .string o.body, .bool o.raw] := by rw [hW5, hno]; exact Blk.new _ _ _
 have R5 := hide (r4.below hb5)
 have HNO : Hid (nb < no) := hide (by rw [hno]; exact r4.res.lt)
 have c1 : W5.cell? ⟨no, 1, none⟩ = some (.string o.text) := ko.cell 1 rfl
 have HKO := hide ko
 have HRO := hide (redirectionOf_any o.text W5 (uh R5).env)
 rw [← uh HRF] at HRO
 have HW5 := hide hW5
 have HNOE := hide hno
 clear hW5 hno hb5 ko p4 f4 r4 R3
 go_upto_region 6 with fail
 rw [← uh HW5, ← uh HNOE]
 clear HW5 HNOE
 go_wp2_with fail
 refine (uh HRO).mono ?_
 rintro e w6 ⟨rfl, b6⟩
 have r6 := (uh R5).below b6
 have ko6 := (uh HKO).below b6 (uh HKO).lt
 obtain ⟨W7, hW7⟩ : ∃ W7, W7 = w6.alloc (.cells #[.int .i64 rf.1, .int .i64 rf.2, .slice none 0 0] 38) := ⟨_, rfl⟩
 obtain ⟨nr, hnr⟩ : ∃ nr, nr = w6.heap.size := ⟨_, rfl⟩
 have hb7 : Below w6.heap.size w6 W7 := by rw [hW7]; exact (Below.refl _ w6).alloc (ler _) _
 have kr : Blk W7 nr 38 #[.int .i64 rf.1, .int .i64 rf.2, .slice none 0 0] := by rw [hW7, hnr]; exact Blk.new _ _ _
 have R7 := hide (r6.below hb7)
 have HKO7 := hide (ko6.below hb7 ko6.lt)
 have HKR := hide kr
 have HNR : Hid (nb < nr ∧ no < nr ∧ nr < W7.heap.size) := hide ⟨by rw [hnr]; exact r6.res.lt, by rw [hnr]; exact ko6.lt, kr.lt⟩
 have HW7 := hide hW7
 have HNRE := hide hnr
 clear hW7 hnr hb7 kr r6 ko6 b6 R5 HKO c1 HRO
 go_upto_region 7 with fail
 rw [← uh HW7, ← uh HNRE]
 clear HW7 HNRE
 have d0 : W7.cell? ⟨nr, 0, none⟩ = some (.int .i64 rf.1) := (uh HKR).cell 0 rfl
 have df : W7.frozen? ⟨nr, 0, none⟩ = false := (uh HKR).frozen 0
 rw [← uh HFE]
 go_upto_region 9 with fail
 obtain ⟨W8, hW8⟩ : ∃ W8, W8 = W7.setCell ⟨nr, 0, none⟩ (.int .i64 fd) := ⟨_, rfl⟩
 rw [← hW8]
 have HKR8 : Hid (Blk W8 nr 38 #[.int .i64 fd, .int .i64 rf.2, .slice none 0 0]) := hide (by rw [hW8]; exact (uh HKR).set 0 _)
 have R8 := hide (show RS w W8 b nb mp 38 #[.int .i64 0, .int .i64 0, .slice none 0 0] s2 by rw [hW8]; exact (uh R7).turn (fr_set W7 nr 0 _) (uh HNR).1)
 have HKO8 : Hid (Blk W8 no 74 #[.int .i64 o.kind, .string o.text, .int .i64 o.pos, .string o.body, .bool o.raw]) := hide (by rw [hW8]; exact (uh HKO7).grownS (fr_set W7 nr 0 _) (Nat.ne_of_lt (uh HNR).2.1))
 clear d0 df hW8 R7 HKR HKO7
 have kr8 := uh HKR8
 have d0 : W8.cell? ⟨nr, 0, none⟩ = some (.int .i64 fd) := kr8.cell 0 rfl
 have d1 : W8.cell? ⟨nr, 1, none⟩ = some (.int .i64 rf.2) := kr8.cell 1 rfl
 have o0 : W8.cell? ⟨no, 0, none⟩ = some (.int .i64 o.kind) := (uh HKO8).cell 0 rfl
 have o1 : W8.cell? ⟨no, 1, none⟩ = some (.string o.text) := (uh HKO8).cell 1 rfl
 have o2 : W8.cell? ⟨no, 2, none⟩ = some (.int .i64 o.pos) := (uh HKO8).cell 2 rfl
 have o3 : W8.cell? ⟨no, 3, none⟩ = some (.string o.body) := (uh HKO8).cell 3 rfl
 have o4 : W8.cell? ⟨no, 4, none⟩ = some (.bool o.raw) := (uh HKO8).cell 4 rfl
 have HWD := hide (pword_any W8 b mp s2 (uh R8).pz (uh R8).env.we hb)
 have h6b : (rf.2 == 6) = false := by simpa using uh H6
 clear kr8
 go_wp2_with fail
 refine (uh HWD).mono ?_
 rintro e w9 ⟨v, rfl, hw, p9, f9⟩
 have r9 := (uh R8).step p9 f9
 have kr9 := (uh HKR8).grownS f9 (fun e => by have := (uh R8).lt; have := (uh HNR).1; omega)
 have HEND := hide (redir_end (m := W8.heap.size) fd rf.2 r9 (uh HNR).1 (uh HKR8).lt hw)
 obtain ⟨ad, cap, hv, _⟩ := hw.len
 subst hv
 have y0 : w9.cell? ⟨nb, 0, none⟩ = some (.int .i64 0) := r9.res.cell 0 rfl
 have y1 : w9.cell? ⟨nb, 1, none⟩ = some (.int .i64 0) := r9.res.cell 1 rfl
 have y2 : w9.cell? ⟨nb, 2, none⟩ = some (.slice none 0 0) := r9.res.cell 2 rfl
 have yf : ∀ i, w9.frozen? ⟨nb, i, none⟩ = false := fun i => r9.res.frozen i
 have z0 : w9.cell? ⟨nr, 0, none⟩ = some (.int .i64 fd) := kr9.cell 0 rfl
 have z1 : w9.cell? ⟨nr, 1, none⟩ = some (.int .i64 rf.2) := kr9.cell 1 rfl
 have z2 : w9.cell? ⟨nr, 2, none⟩ = some (.slice none 0 0) := kr9.cell 2 rfl
 have zf : ∀ i, w9.frozen? ⟨nr, i, none⟩ = false := fun i => kr9.frozen i
 have hne : nb ≠ nr := Nat.ne_of_lt (uh HNR).1
 clear hw p9 f9 r9 kr9 d0 d1 o0 o1 o2 o3 o4
 go_wp2
 refine bodyPost_ret (results_cell_row (P := Tryz.prog) rfl _ _ nb 38 _ (0, 0) _ rfl (uh HEND).1 Tryz.underlying38 rfl (by kernel_rfl)) rfl ⟨_, rfl, (uh HEND).2⟩
theorem predir_nh (w : World) (b : Nat) (mp : Value) (s : Pz) (H : PzAt w b mp s) (he : PEnv w) (hb : 7 ≤ b) (h4 : s.next.kind = 4) (h6 : (redirOf (s.number.2).next.text).2 = 6) : Calls Tryz.prog 125 #[.pointer (some ⟨b, 0, none⟩)] w fun e w' => ∃ v, e = .returned (.agg #[.int .i64 s.redir.1.1, .int .i64 s.redir.1.2.1, v]) ∧ WAt w' (New w w') v s.redir.1.2.2 ∧ PzAt w' b mp s.redir.2 ∧ Fr w w' b := by
 obtain ⟨W1, hW1⟩ : ∃ W1, W1 = w.alloc (.cells #[.int .i64 0, .int .i64 0, .slice none 0 0] 38) := ⟨_, rfl⟩
 obtain ⟨nb, hnb⟩ : ∃ nb, nb = w.heap.size := ⟨_, rfl⟩
 have hb1 : Below w.heap.size w W1 := by rw [hW1]; exact (Below.refl _ _).alloc (ler _) _
 have R1 : Hid (RS w W1 b nb mp 38 #[.int .i64 0, .int .i64 0, .slice none 0 0] s) := hide ⟨fr_below hb1, by rw [hW1, hnb]; exact Blk.new _ _ _, H.below hb1, he.below hb1, by rw [hnb]; exact ler _, by rw [hnb]; exact H.lt, hb⟩
 have HNX := hide (pnext_any W1 b mp s (uh R1).pz)
 unfold Tok.cells at HNX
 have HFD := hide (fld_tok0 s.next)
 have HOK : PzOk (s.number.2) := number_ok H.ok
 obtain ⟨s1, hs1⟩ : ∃ s1, s1 = s.number.2 := ⟨_, rfl⟩
 obtain ⟨o, ho⟩ : ∃ o, o = s1.next := ⟨_, rfl⟩
 obtain ⟨s2, hs2⟩ : ∃ s2, s2 = s1.take := ⟨_, rfl⟩
 obtain ⟨rf, hrf⟩ : ∃ rf, rf = redirOf o.text := ⟨_, rfl⟩
 obtain ⟨fd, hfd⟩ : ∃ fd, fd = s.number.1 := ⟨_, rfl⟩
 have h6' : rf.2 = 6 := by rw [hrf, ho, hs1]; exact h6
 have HRE : Hid (s.redir = ((fd, rf.2, (s2.inPlace o).1), (s2.inPlace o).2)) := hide (by
  unfold Pz.redir
  simp only [decide_eq_true h4, if_true]
  rw [show (redirOf (s.number.2).next.text).2 = rf.2 by rw [hrf, ho, hs1]]
  simp only [if_pos h6']
  rw [hfd, hrf, hs2, ho, hs1])
 rw [uh HRE]
 have H6 := hide h6'
 have HS1 := hide hs1
 have HOE := hide ho
 have HS2 := hide hs2
 have HRF := hide hrf
 have HFE := hide hfd
 have HW1 := hide hW1
 have HNB := hide hnb
 clear hW1 hnb hb1 hs1 ho hs2 hrf hfd H he h6 h6' HRE
 go_enter Tryz.func125, Tryz.ntmps125
 go_upto_region 1 with fail
 rw [← uh HW1, ← uh HNB]
 go_wp2_with fail
 refine (uh HNX).mono ?_
 rintro e w2 ⟨rfl, b2⟩
 have R2 := hide ((uh R1).below b2)
 have hf0 := uh HFD w2
 rw [h4] at hf0
 clear b2 HNX
 go_wp2_with fail
 refine (pnumber_any w2 b mp s (uh R2).pz).mono ?_
 rintro e w3 ⟨rfl, p3, f3⟩
 rw [← uh HS1] at p3
 have R3 := hide ((uh R2).step p3 f3)
 clear p3 f3 R2 hf0
 go_wp2_with fail
 refine (ptake_any _ b mp s1 (uh R3).pz).mono ?_
 rintro e w4 ⟨rfl, p4, f4⟩
 rw [← uh HS2] at p4
 rw [← uh HOE]
 have r4 := (uh R3).step p4 f4
 unfold Tok.cells
 obtain ⟨W5, hW5⟩ : ∃ W5, W5 = w4.alloc (.cells #[.int .i64 o.kind, .string o.text, .int .i64 o.pos, .string o.body, .bool o.raw] 74) := ⟨_, rfl⟩
 obtain ⟨no, hno⟩ : ∃ no, no = w4.heap.size := ⟨_, rfl⟩
 have hb5 : Below w4.heap.size w4 W5 := by rw [hW5]; exact (Below.refl _ w4).alloc (ler _) _
 have ko : Blk W5 no 74 #[.int .i64 o.kind, .string o.text, .int .i64 o.pos, .string o.body, .bool o.raw] := by rw [hW5, hno]; exact Blk.new _ _ _
 have R5 := hide (r4.below hb5)
 have HNO : Hid (nb < no) := hide (by rw [hno]; exact r4.res.lt)
 have c1 : W5.cell? ⟨no, 1, none⟩ = some (.string o.text) := ko.cell 1 rfl
 have HKO := hide ko
 have HRO := hide (redirectionOf_any o.text W5 (uh R5).env)
 rw [← uh HRF] at HRO
 have HW5 := hide hW5
 have HNOE := hide hno
 clear hW5 hno hb5 ko p4 f4 r4 R3
 go_upto_region 6 with fail
 rw [← uh HW5, ← uh HNOE]
 clear HW5 HNOE
 go_wp2_with fail
 refine (uh HRO).mono ?_
 rintro e w6 ⟨rfl, b6⟩
 have r6 := (uh R5).below b6
 have ko6 := (uh HKO).below b6 (uh HKO).lt
 obtain ⟨W7, hW7⟩ : ∃ W7, W7 = w6.alloc (.cells #[.int .i64 rf.1, .int .i64 rf.2, .slice none 0 0] 38) := ⟨_, rfl⟩
 obtain ⟨nr, hnr⟩ : ∃ nr, nr = w6.heap.size := ⟨_, rfl⟩
 have hb7 : Below w6.heap.size w6 W7 := by rw [hW7]; exact (Below.refl _ w6).alloc (ler _) _
 have kr : Blk W7 nr 38 #[.int .i64 rf.1, .int .i64 rf.2, .slice none 0 0] := by rw [hW7, hnr]; exact Blk.new _ _ _
 have R7 := hide (r6.below hb7)
 have HKO7 := hide (ko6.below hb7 ko6.lt)
 have HKR := hide kr
 have HNR : Hid (nb < nr ∧ no < nr ∧ nr < W7.heap.size) := hide ⟨by rw [hnr]; exact r6.res.lt, by rw [hnr]; exact ko6.lt, kr.lt⟩
 have HW7 := hide hW7
 have HNRE := hide hnr
 clear hW7 hnr hb7 kr r6 ko6 b6 R5 HKO c1 HRO
 go_upto_region 7 with fail
 rw [← uh HW7, ← uh HNRE]
 clear HW7 HNRE
 have d0 : W7.cell? ⟨nr, 0, none⟩ = some (.int .i64 rf.1) := (uh HKR).cell 0 rfl
 have df : W7.frozen? ⟨nr, 0, none⟩ = false := (uh HKR).frozen 0
 rw [← uh HFE]
 go_upto_region 9 with fail
 obtain ⟨W8, hW8⟩ : ∃ W8, W8 = W7.setCell ⟨nr, 0, none⟩ (.int .i64 fd) := ⟨_, rfl⟩
 rw [← hW8]
 have HKR8 : Hid (Blk W8 nr 38 #[.int .i64 fd, .int .i64 rf.2, .slice none 0 0]) := hide (by rw [hW8]; exact (uh HKR).set 0 _)
 have R8 := hide (show RS w W8 b nb mp 38 #[.int .i64 0, .int .i64 0, .slice none 0 0] s2 by rw [hW8]; exact (uh R7).turn (fr_set W7 nr 0 _) (uh HNR).1)
 have HKO8 : Hid (Blk W8 no 74 #[.int .i64 o.kind, .string o.text, .int .i64 o.pos, .string o.body, .bool o.raw]) := hide (by rw [hW8]; exact (uh HKO7).grownS (fr_set W7 nr 0 _) (Nat.ne_of_lt (uh HNR).2.1))
 clear d0 df hW8 R7 HKR HKO7
 have kr8 := uh HKR8
 have d0 : W8.cell? ⟨nr, 0, none⟩ = some (.int .i64 fd) := kr8.cell 0 rfl
 have d1 : W8.cell? ⟨nr, 1, none⟩ = some (.int .i64 rf.2) := kr8.cell 1 rfl
 have o0 : W8.cell? ⟨no, 0, none⟩ = some (.int .i64 o.kind) := (uh HKO8).cell 0 rfl
 have o1 : W8.cell? ⟨no, 1, none⟩ = some (.string o.text) := (uh HKO8).cell 1 rfl
 have o2 : W8.cell? ⟨no, 2, none⟩ = some (.int .i64 o.pos) := (uh HKO8).cell 2 rfl
 have o3 : W8.cell? ⟨no, 3, none⟩ = some (.string o.body) := (uh HKO8).cell 3 rfl
 have o4 : W8.cell? ⟨no, 4, none⟩ = some (.bool o.raw) := (uh HKO8).cell 4 rfl
 have HWD := hide (pinPlace_any W8 b mp s2 o (uh R8).pz (uh R8).env.we hb (by rw [uh HOE, uh HS1]; exact next_body HOK))
 rw [uh H6] at d1
 clear kr8
 go_wp2_with fail
 refine (uh HWD).mono ?_
 rintro e w9 ⟨v, rfl, hw, p9, f9⟩
 have r9 := (uh R8).step p9 f9
 have kr9 := (uh HKR8).grownS f9 (fun e => by have := (uh R8).lt; have := (uh HNR).1; omega)
 have HEND := hide (redir_end (m := W8.heap.size) fd rf.2 r9 (uh HNR).1 (uh HKR8).lt hw)
 obtain ⟨ad, cap, hv, _⟩ := hw.len
 subst hv
 have y0 : w9.cell? ⟨nb, 0, none⟩ = some (.int .i64 0) := r9.res.cell 0 rfl
 have y1 : w9.cell? ⟨nb, 1, none⟩ = some (.int .i64 0) := r9.res.cell 1 rfl
 have y2 : w9.cell? ⟨nb, 2, none⟩ = some (.slice none 0 0) := r9.res.cell 2 rfl
 have yf : ∀ i, w9.frozen? ⟨nb, i, none⟩ = false := fun i => r9.res.frozen i
 have z0 : w9.cell? ⟨nr, 0, none⟩ = some (.int .i64 fd) := kr9.cell 0 rfl
 have z1 : w9.cell? ⟨nr, 1, none⟩ = some (.int .i64 rf.2) := kr9.cell 1 rfl
 have z2 : w9.cell? ⟨nr, 2, none⟩ = some (.slice none 0 0) := kr9.cell 2 rfl
 have zf : ∀ i, w9.frozen? ⟨nr, i, none⟩ = false := fun i => kr9.frozen i
 have hne : nb ≠ nr := Nat.ne_of_lt (uh HNR).1
 clear hw p9 f9 r9 kr9 d0 d1 o0 o1 o2 o3 o4
 go_wp2
 refine bodyPost_ret (results_cell_row (P := Tryz.prog) rfl _ _ nb 38 _ (0, 0) _ rfl (uh HEND).1 Tryz.underlying38 rfl (by kernel_rfl)) rfl ⟨_, rfl, (uh HEND).2⟩
theorem predir_any (w : World) (b : Nat) (mp : Value) (s : Pz) (H : PzAt w b mp s) (he : PEnv w) (hb : 7 ≤ b) : Calls Tryz.prog 125 #[.pointer (some ⟨b, 0, none⟩)] w fun e w' => ∃ v, e = .returned (.agg #[.int .i64 s.redir.1.1, .int .i64 s.redir.1.2.1, v]) ∧ WAt w' (New w w') v s.redir.1.2.2 ∧ PzAt w' b mp s.redir.2 ∧ Fr w w' b := by
 by_cases h4 : s.next.kind = 4
 ·by_cases h6 : (redirOf s.number.2.next.text).2 = 6
  ·exact predir_nh w b mp s H he hb h4 h6
  ·exact predir_nw w b mp s H he hb h4 h6
 ·by_cases h6 : (redirOf s.next.text).2 = 6
  ·exact predir_ph w b mp s H he hb h4 h6
  ·exact predir_pw w b mp s H he hb h4 h6
theorem below_drew' (w : World) (k : Nat) : Below w.heap.size w (w.drewN k) := below_of_grown (gdn w k)
theorem letN_len {t : List UInt8} (h : letN t ≠ []) : (letN t).length + 1 ≤ t.length := by
 unfold letN at h ⊢
 by_cases hd : (t.drop (frontN t)).head? = some 61
 ·rw [if_pos hd] at h ⊢
  have h1 := frontN_le t
  have h2 : frontN t < t.length := by
   rcases Nat.lt_or_ge (frontN t) t.length with h2 | h2
   ·exact h2
   ·rw [List.drop_eq_nil_of_le h2] at hd
    cases hd
  rw [List.length_take, Nat.min_eq_left h1]
  exact h2
 ·rw [if_neg hd] at h
  exact absurd rfl h
theorem let_end {w W9 : World} {b nb : Nat} {mp v : Value} {s : Pz} {wd : Wd} {m : Nat} {z : Array Value} (nm : ByteArray) (h : RS w W9 b nb mp 51 z s) (hz : z = #[.string ⟨#[]⟩, .slice none 0 0]) (hm : nb < m) (hw : WAt W9 (fun j => m ≤ j ∧ j < W9.heap.size) v wd) :
 Blk ((W9.setCell ⟨nb, 0, none⟩ (.string nm)).setCell ⟨nb, 1, none⟩ v) nb 51 #[.string nm, v] ∧ WAt ((W9.setCell ⟨nb, 0, none⟩ (.string nm)).setCell ⟨nb, 1, none⟩ v) (New w ((W9.setCell ⟨nb, 0, none⟩ (.string nm)).setCell ⟨nb, 1, none⟩ v)) v wd ∧ PzAt ((W9.setCell ⟨nb, 0, none⟩ (.string nm)).setCell ⟨nb, 1, none⟩ v) b mp s ∧ Fr w ((W9.setCell ⟨nb, 0, none⟩ (.string nm)).setCell ⟨nb, 1, none⟩ v) b := by
 subst hz
 have g2 : GrownS W9 ((W9.setCell ⟨nb, 0, none⟩ (.string nm)).setCell ⟨nb, 1, none⟩ v) (fun j => j = nb) := (fr_set _ nb 0 _).trans (fr_set _ nb 1 _)
 refine ⟨(h.res.set 0 _).set 1 _, ?_, h.pz.grownS g2 (fun j e => by have := h.lt; omega), ((leg_fr h.fr).trans (leg_new g2 h.new)).fr⟩
 refine hw.kept (fun j hj => ?_) (fun j hj => ⟨by have := h.new; omega, lle hj.2 g2.size⟩)
 rw [g2.block j hj.2 (by omega)]
theorem plet_any (w : World) (b : Nat) (mp : Value) (s : Pz) (H : PzAt w b mp s) (he : PEnv w) (hb : 7 ≤ b) (hn : letN s.next.text.data.toList ≠ []) : Calls Tryz.prog 127 #[.pointer (some ⟨b, 0, none⟩)] w fun e w' => ∃ v, e = .returned (.agg #[.string (BA s.lets.1.1), v]) ∧ WAt w' (New w w') v s.lets.1.2 ∧ PzAt w' b mp s.lets.2 ∧ Fr w w' b := by
 obtain ⟨W1, hW1⟩ : ∃ W1, W1 = w.alloc (.cells #[.string ⟨#[]⟩, .slice none 0 0] 51) := ⟨_, rfl⟩
 obtain ⟨nb, hnb⟩ : ∃ nb, nb = w.heap.size := ⟨_, rfl⟩
 have hb1 : Below w.heap.size w W1 := by rw [hW1]; exact (Below.refl _ _).alloc (ler _) _
 have R1 : Hid (RS w W1 b nb mp 51 #[.string ⟨#[]⟩, .slice none 0 0] s) := hide ⟨fr_below hb1, by rw [hW1, hnb]; exact Blk.new _ _ _, H.below hb1, he.below hb1, by rw [hnb]; exact ler _, by rw [hnb]; exact H.lt, hb⟩
 have HTK := hide (ptake_any W1 b mp s (uh R1).pz)
 have HSZ := H.ok.next.1
 obtain ⟨t, ht⟩ : ∃ t, t = s.next := ⟨_, rfl⟩
 obtain ⟨s1, hs1⟩ : ∃ s1, s1 = s.take := ⟨_, rfl⟩
 rw [← ht] at hn HSZ
 obtain ⟨l, hl⟩ : ∃ l, l = t.text.data.toList := ⟨_, rfl⟩
 obtain ⟨m, hm⟩ : ∃ m, m = letN l := ⟨_, rfl⟩
 have hlen : l.length ≤ 100000 := by rw [hl, data_len]; exact HSZ
 have hml : m.length + 1 ≤ l.length := by rw [hm, hl]; exact letN_len hn
 have HLE : Hid (s.lets = ((m, (s1.parts 0 (BA (l.drop (m.length + 1))) t.pos).1), (s1.parts 0 (BA (l.drop (m.length + 1))) t.pos).2)) := hide (by rw [hm, hl, ht, hs1]; rfl)
 rw [← ht, ← hs1] at HTK
 unfold Tok.cells at HTK
 rw [uh HLE]
 have htx : t.text = BA l := by rw [hl]; exact (BA_of _).symm
 rw [htx] at HTK
 have HLN := hide (fun W => letName_any l W hlen)
 rw [← hm] at HLN
 have hex : (BA l).extract (m.length + 1) l.length = BA (l.drop (m.length + 1)) := extract_end (BA l) (m.length + 1)
 have hml2 : (m.length : Int) + 1 ≤ (l.length : Int) := by omega
 have hml3 : (0 : Int) ≤ (m.length : Int) + 1 := by omega
 have hml4 : m.length ≤ 100000 := by omega
 have HW1 := hide hW1
 have HNB := hide hnb
 clear hW1 hnb hb1 ht hs1 hl hm hn HSZ H he HLE htx hml
 go_enter Tryz.func127, Tryz.ntmps127
 go_upto_region 1 with fail
 rw [← uh HW1, ← uh HNB]
 go_wp2_with fail
 refine (uh HTK).mono ?_
 rintro e w2 ⟨rfl, p2, f2⟩
 have r2 := (uh R1).step p2 f2
 obtain ⟨W3, hW3⟩ : ∃ W3, W3 = w2.alloc (.cells #[.int .i64 t.kind, .string (BA l), .int .i64 t.pos, .string t.body, .bool t.raw] 74) := ⟨_, rfl⟩
 obtain ⟨nt, hnt⟩ : ∃ nt, nt = w2.heap.size := ⟨_, rfl⟩
 have hb3 : Below w2.heap.size w2 W3 := by rw [hW3]; exact (Below.refl _ w2).alloc (ler _) _
 have kt : Blk W3 nt 74 #[.int .i64 t.kind, .string (BA l), .int .i64 t.pos, .string t.body, .bool t.raw] := by rw [hW3, hnt]; exact Blk.new _ _ _
 have R3 := hide (r2.below hb3)
 have HKT := hide kt
 have HNT : Hid (nb < nt) := hide (by rw [hnt]; exact r2.res.lt)
 have c1 : W3.cell? ⟨nt, 1, none⟩ = some (.string (BA l)) := kt.cell 1 rfl
 have c2 : W3.cell? ⟨nt, 2, none⟩ = some (.int .i64 t.pos) := kt.cell 2 rfl
 have HW3 := hide hW3
 have HNTE := hide hnt
 clear hW3 hnt hb3 kt p2 f2 r2 R1 HTK
 go_upto_region 2 with fail
 rw [← uh HW3, ← uh HNTE]
 clear HW3 HNTE
 go_wp2_with fail
 refine (uh HLN W3).mono ?_
 rintro e w4 ⟨rfl, hw4⟩
 rw [show w4 = W3 from hw4]
 clear hw4
 have HPT : Hid (∀ W, Below W3.heap.size W3 W → Calls Tryz.prog 79 #[.pointer (some ⟨b, 0, none⟩), .func (Fn.func 80) #[] #[], .string (BA (l.drop (m.length + 1))), .int .i64 t.pos] W fun e w' => ∃ ad n cap, e = .returned (.slice ad n cap) ∧ w'.cell? ⟨nt, 1, none⟩ = some (.string (BA l)) ∧ w'.cell? ⟨nt, 2, none⟩ = some (.int .i64 t.pos) ∧ w'.cell? ⟨nb, 0, none⟩ = some (.string ⟨#[]⟩) ∧ w'.cell? ⟨nb, 1, none⟩ = some (.slice none 0 0) ∧ (∀ i, w'.frozen? ⟨nb, i, none⟩ = false) ∧ Hid (Blk ((w'.setCell ⟨nb, 0, none⟩ (.string (BA m))).setCell ⟨nb, 1, none⟩ (.slice ad n cap)) nb 51 #[.string (BA m), .slice ad n cap] ∧ WAt ((w'.setCell ⟨nb, 0, none⟩ (.string (BA m))).setCell ⟨nb, 1, none⟩ (.slice ad n cap)) (New w ((w'.setCell ⟨nb, 0, none⟩ (.string (BA m))).setCell ⟨nb, 1, none⟩ (.slice ad n cap))) (.slice ad n cap) (s1.parts 0 (BA (l.drop (m.length + 1))) t.pos).1 ∧ PzAt ((w'.setCell ⟨nb, 0, none⟩ (.string (BA m))).setCell ⟨nb, 1, none⟩ (.slice ad n cap)) b mp (s1.parts 0 (BA (l.drop (m.length + 1))) t.pos).2 ∧ Fr w ((w'.setCell ⟨nb, 0, none⟩ (.string (BA m))).setCell ⟨nb, 1, none⟩ (.slice ad n cap)) b)) := hide (fun W hB => by
  have r5 := (uh R3).below hB
  have k5 := (uh HKT).below hB (uh HKT).lt
  refine (pparts_0 W b mp s1 (l.drop (m.length + 1)) t.pos r5.pz r5.env.we (by rw [List.length_drop]; omega)).mono ?_
  rintro e w' ⟨v, h1, h2, h3, h4⟩
  obtain ⟨ad, cap, hv, _⟩ := h2.len
  subst hv
  have r6 := r5.step h3 h4
  have k6 := k5.grownS h4 (fun e => by have := r5.lt; have := uh HNT; omega)
  exact ⟨ad, _, cap, h1, k6.cell 1 rfl, k6.cell 2 rfl, r6.res.cell 0 rfl, r6.res.cell 1 rfl, fun i => r6.res.frozen i, hide (let_end (m := W.heap.size) (BA m) r6 rfl r5.res.lt h2)⟩)
 have hne : nt ≠ nb := Nat.ne_of_gt (uh HNT)
 have hcat : ∀ W : World, (Op.stringOp .add (BA m) ⟨#[61]⟩).run Tryz.prog W = .ok (.string (BA m ++ ⟨#[61]⟩)) W := fun W => run_string_add_sum W (BA m) ⟨#[61]⟩ (by rw [BA_size]; show m.length + 1 ≤ _; omega)
 clear R3 HKT HLN
 go_wp2_with fail
 go_region_held3 (fun w' => w'.cell? ⟨nt, 1, none⟩ = some (.string (BA l)) ∧ w'.cell? ⟨nt, 2, none⟩ = some (.int .i64 t.pos)) (first | go_keep | exact ⟨tset_far (fun e => hne e.symm) (tset_far (fun e => hne e.symm) d1), tset_far (fun e => hne e.symm) (tset_far (fun e => hne e.symm) d2)⟩) ((go_at_call 79; refine (uh HPT _ (by first | exact Below.refl _ _ | exact below_drew' _ _)).mono ?_; rintro e w6 ⟨ad, n, cap, rfl, d1, d2, d3, d4, d5, HEND⟩))
 go_wp2
 refine bodyPost_ret (results_cell_row (P := Tryz.prog) rfl _ _ nb 51 _ (0, 0) _ rfl (uh HEND).1 Tryz.underlying51 rfl (by kernel_rfl)) rfl ⟨_, rfl, (uh HEND).2⟩
end Go.Proofs.YtojjfdobilkknaaGreatDoor

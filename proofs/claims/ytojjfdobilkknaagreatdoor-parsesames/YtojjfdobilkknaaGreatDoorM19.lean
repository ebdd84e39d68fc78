/- The parser's words: wantWord, parts, word.; The parser's redirections: the table of their Ops; redirectionOf, seesRedirection.; chars.Number of a redirection's number; seesRedirection; letName; number. -/
import Derived.Test.YtojjfdobilkknaaGreatDoorM11
import Derived.Test.YtojjfdobilkknaaGreatDoorM18
import Derived.Deep.MidRow
set_option maxRecDepth 20000
set_option maxHeartbeats 2000000
namespace Go.Proofs.YtojjfdobilkknaaGreatDoor
open Go.RowKit
theorem pwantWord_any (w : World) (b : Nat) (mp : Value) (s : Pz) (H : PzAt w b mp s) : Calls Tryz.prog 78 #[.pointer (some ⟨b, 0, none⟩)] w fun e w' => e = .returned (.agg s.wantWord.1.cells) ∧ PzAt w' b mp s.wantWord.2 ∧ Fr w w' b := by
 obtain ⟨W1, hW1⟩ : ∃ W1, W1 = w.alloc (.cells #[.int .i64 0, .string ⟨#[]⟩, .int .i64 0, .string ⟨#[]⟩, .bool false] 74) := ⟨_, rfl⟩
 have hb1 : Below w.heap.size w W1 := by rw [hW1]; exact (Below.refl _ _).alloc (ler _) _
 obtain ⟨nb, hnb⟩ : ∃ nb, nb = w.heap.size := ⟨_, rfl⟩
 have HKN : Hid (Blk W1 nb 74 #[.int .i64 0, .string ⟨#[]⟩, .int .i64 0, .string ⟨#[]⟩, .bool false]) := hide (by rw [hW1, hnb]; exact Blk.new _ _ _)
 have HNW : Hid (w.heap.size ≤ nb ∧ b < nb) := hide (by
  obtain ⟨_, v, h1, _⟩ := H
  rw [hnb]
  exact ⟨ler _, h1.lt⟩)
 have HSW := hide (pseesWord_any W1 b mp s (H.below hb1))
 have HW1 := hide hW1
 have HNB := hide hnb
 have HB1 := hide hb1
 have HH := hide H
 have HE : Hid (∀ (W W' : World) (s' : Pz), Fr w W b → Blk W nb 74 #[.int .i64 0, .string ⟨#[]⟩, .int .i64 0, .string ⟨#[]⟩, .bool false] → PzAt W' b mp s' → Fr W W' b → ∀ t, Blk (T5 W' nb t) nb 74 t.cells ∧ (PzAt (T5 W' nb t) b mp s' ∧ Fr w (T5 W' nb t) b) ∧ W'.cell? ⟨nb, 0, none⟩ = some (.int .i64 0) ∧ W'.cell? ⟨nb, 1, none⟩ = some (.string ⟨#[]⟩) ∧ W'.cell? ⟨nb, 2, none⟩ = some (.int .i64 0) ∧ W'.cell? ⟨nb, 3, none⟩ = some (.string ⟨#[]⟩) ∧ W'.cell? ⟨nb, 4, none⟩ = some (.bool false) ∧ ∀ i, W'.frozen? ⟨nb, i, none⟩ = false) := hide (fun W W' s' h1 h2 h3 h4 t => by
  have hk := h2.grownS h4 (fun e => by have := (uh HNW).2; omega)
  have hL : Fr w (T5 W' nb t) b := (((leg_fr h1).trans (leg_fr h4)).trans (leg_new (T5_grown W' nb t) (uh HNW).1)).fr
  exact ⟨T5_blk hk t, ⟨h3.grownS (T5_grown W' nb t) (fun k e => by rw [e]; exact (uh HNW).2), hL⟩, hk.cell 0 rfl, hk.cell 1 rfl, hk.cell 2 rfl, hk.cell 3 rfl, hk.cell 4 rfl, fun i => hk.frozen i⟩)
 clear hW1 hb1 hnb H
 cases hs : s.seesWord with
 | true =>
   rw [show s.wantWord = (s.next, s.take) by unfold Pz.wantWord; rw [hs]; rfl]
   rw [hs] at HSW
   clear hs
   go_enter Tryz.func78, Tryz.ntmps78
   go_upto_region 1 with fail
   rw [← uh HW1, ← uh HNB]
   go_wp2_with fail
   refine (uh HSW).mono ?_
   rintro e w2 ⟨rfl, b2⟩
   have HB2 : Hid (Fr w w2 b ∧ Blk w2 nb 74 #[.int .i64 0, .string ⟨#[]⟩, .int .i64 0, .string ⟨#[]⟩, .bool false] ∧ PzAt w2 b mp s) := hide (by
    have hb := (uh HB1).trans (b2.mono (uh HB1).size)
    exact ⟨fr_below hb, (uh HKN).below b2 (uh HKN).lt, (uh HH).below hb⟩)
   clear b2 HW1 HNB HSW HB1 HKN
   go_wp2_with fail
   refine (ptake_any w2 b mp s (uh HB2).2.2).mono ?_
   rintro e w3 ⟨rfl, p3, f3⟩
   obtain ⟨hF, hR, c0, c1, c2, c3, c4, ff⟩ := uh HE w2 w3 s.take (uh HB2).1 (uh HB2).2.1 p3 f3 s.next
   have HF := hide hF
   have HR := hide hR
   obtain ⟨t, ht⟩ : ∃ t, t = s.next := ⟨_, rfl⟩
   rw [← ht] at HF HR ⊢
   have HTE := hide ht
   unfold Tok.cells
   clear p3 f3 hF hR ht HE HB2 HH
   go_wp2
   refine bodyPost_ret (results_cell_row (P := Tryz.prog) rfl _ _ nb 74 t.cells (0, 0) _ rfl (uh HF) Tryz.underlying74 rfl (by kernel_rfl)) rfl ⟨by rw [uh HTE], uh HR⟩
 | false =>
   rw [show s.wantWord = (s.misfit.next, s.misfit.take) by unfold Pz.wantWord; rw [hs]; rfl]
   rw [hs] at HSW
   clear hs
   go_enter Tryz.func78, Tryz.ntmps78
   go_upto_region 1 with fail
   rw [← uh HW1, ← uh HNB]
   go_wp2_with fail
   refine (uh HSW).mono ?_
   rintro e w2 ⟨rfl, b2⟩
   have HB2 : Hid (Fr w w2 b ∧ Blk w2 nb 74 #[.int .i64 0, .string ⟨#[]⟩, .int .i64 0, .string ⟨#[]⟩, .bool false] ∧ PzAt w2 b mp s) := hide (by
    have hb := (uh HB1).trans (b2.mono (uh HB1).size)
    exact ⟨fr_below hb, (uh HKN).below b2 (uh HKN).lt, (uh HH).below hb⟩)
   clear b2 HW1 HNB HSW HB1 HKN
   go_wp2_with fail
   refine (pmisfit_any w2 b mp s (uh HB2).2.2).mono ?_
   rintro e w3 ⟨rfl, p3, f3⟩
   have HB3 : Hid (Fr w w3 b ∧ Blk w3 nb 74 #[.int .i64 0, .string ⟨#[]⟩, .int .i64 0, .string ⟨#[]⟩, .bool false] ∧ PzAt w3 b mp s.misfit) := hide ⟨(uh HB2).1.trans' f3, (uh HB2).2.1.grownS f3 (fun e => by have := (uh HNW).2; omega), p3⟩
   clear p3 f3 HB2
   go_wp2_with fail
   refine (ptake_any w3 b mp s.misfit (uh HB3).2.2).mono ?_
   rintro e w4 ⟨rfl, p4, f4⟩
   obtain ⟨hF, hR, c0, c1, c2, c3, c4, ff⟩ := uh HE w3 w4 s.misfit.take (uh HB3).1 (uh HB3).2.1 p4 f4 s.misfit.next
   have HF := hide hF
   have HR := hide hR
   obtain ⟨t, ht⟩ : ∃ t, t = s.misfit.next := ⟨_, rfl⟩
   rw [← ht] at HF HR ⊢
   have HTE := hide ht
   unfold Tok.cells
   clear p4 f4 hF hR ht HE HB3 HH
   go_wp2
   refine bodyPost_ret (results_cell_row (P := Tryz.prog) rfl _ _ nb 74 t.cells (0, 0) _ rfl (uh HF) Tryz.underlying74 rfl (by kernel_rfl)) rfl ⟨by rw [uh HTE], uh HR⟩
def New (w w' : World) (k : Nat) : Prop := w.heap.size ≤ k ∧ k < w'.heap.size
theorem WEnv.fr {w w' : World} {b : Nat} (h : WEnv w) (hf : Fr w w' b) (hb : 7 ≤ b) : WEnv w' := h.grown hf (fun k e => by omega)
theorem WAt.fr {w w1 w2 : World} {b : Nat} {v : Value} {l : Wd} (h : WAt w1 (New w w1) v l) (hf : Fr w1 w2 b) (hb : b < w.heap.size) : WAt w2 (New w w2) v l :=
 h.kept (fun k hk => hf.block k hk.2 (fun e => by have := hk.1; omega)) (fun k hk => ⟨hk.1, lle hk.2 hf.size⟩)
theorem WAt.older {w0 w w1 : World} {v : Value} {l : Wd} (h : WAt w1 (New w w1) v l) (hs : w0.heap.size ≤ w.heap.size) : WAt w1 (New w0 w1) v l :=
 h.kept (fun _ _ => rfl) (fun _ hk => ⟨lee hs hk.1, hk.2⟩)
theorem pparts_0 (w : World) (b : Nat) (mp : Value) (s : Pz) (l : List UInt8) (x : Int) (H : PzAt w b mp s) (he : WEnv w) (hl : l.length ≤ 100000) :
 Calls Tryz.prog 79 #[.pointer (some ⟨b, 0, none⟩), .func (Fn.func 80) #[] #[], .string (BA l), .int .i64 x] w fun e w' => ∃ v, e = .returned v ∧ WAt w' (New w w') v (s.parts 0 (BA l) x).1 ∧ PzAt w' b mp (s.parts 0 (BA l) x).2 ∧ Fr w w' b := by
 have HP := hide (parse_any l w he hl)
 have HH := hide H
 have HLT := hide H.lt
 rw [show (s.parts 0 (BA l) x).1 = (wrdL true 0 l).parts from rfl]
 by_cases hz : (wrdL true 0 l).errno = 0
 ·rw [show (s.parts 0 (BA l) x).2 = s by unfold Pz.parts; exact if_pos hz]
  rw [hz] at HP
  clear H he hz
  go_enter Tryz.func79, Tryz.ntmps79
  go_wp2_with fail
  refine (uh HP).mono ?_
  rintro e w1 ⟨v, rfl, b1, hw⟩
  have HR := hide (And.intro hw (And.intro ((uh HH).below b1) (fr_below (b := b) b1)))
  obtain ⟨ad, cap, hv, _⟩ := hw.len
  subst hv
  clear b1 hw
  go_wp2
  go_ret
  exact ⟨_, rfl, uh HR⟩
 ·rw [show (s.parts 0 (BA l) x).2 = s.fail (wrdL true 0 l).errno x by unfold Pz.parts; exact if_neg hz]
  have hz1 : ((wrdL true 0 l).errno == 0) = false := by simpa using hz
  clear H he hz
  go_enter Tryz.func79, Tryz.ntmps79
  go_wp2_with fail
  refine (uh HP).mono ?_
  rintro e w1 ⟨v, rfl, b1, hw⟩
  have HW := hide hw
  have HB := hide b1
  have HF := hide (pfail_any w1 b mp s (wrdL true 0 l).errno x ((uh HH).below b1))
  obtain ⟨ad, cap, hv, _⟩ := hw.len
  subst hv
  clear b1 hw
  go_wp2_with fail
  refine (uh HF).mono ?_
  rintro e w2 ⟨rfl, p2, f2⟩
  have HR := hide (And.intro ((uh HW).fr f2 (uh HLT)) (And.intro p2 ((fr_below (b := b) (uh HB)).trans' f2)))
  clear p2 f2
  go_wp2
  go_ret
  exact ⟨_, rfl, uh HR⟩
theorem pparts_5 (w : World) (b : Nat) (mp : Value) (s : Pz) (l : List UInt8) (x : Int) (H : PzAt w b mp s) (he : WEnv w) (hl : l.length ≤ 100000) :
 Calls Tryz.prog 79 #[.pointer (some ⟨b, 0, none⟩), .func (Fn.func 148) #[] #[], .string (BA l), .int .i64 x] w fun e w' => ∃ v, e = .returned v ∧ WAt w' (New w w') v (s.parts 5 (BA l) x).1 ∧ PzAt w' b mp (s.parts 5 (BA l) x).2 ∧ Fr w w' b := by
 have HP := hide (here_any l w he hl)
 have HH := hide H
 have HLT := hide H.lt
 rw [show (s.parts 5 (BA l) x).1 = (wrdL true 5 l).parts from rfl]
 by_cases hz : (wrdL true 5 l).errno = 0
 ·rw [show (s.parts 5 (BA l) x).2 = s by unfold Pz.parts; exact if_pos hz]
  rw [hz] at HP
  clear H he hz
  go_enter Tryz.func79, Tryz.ntmps79
  go_wp2_with fail
  refine (uh HP).mono ?_
  rintro e w1 ⟨v, rfl, b1, hw⟩
  have HR := hide (And.intro hw (And.intro ((uh HH).below b1) (fr_below (b := b) b1)))
  obtain ⟨ad, cap, hv, _⟩ := hw.len
  subst hv
  clear b1 hw
  go_wp2
  go_ret
  exact ⟨_, rfl, uh HR⟩
 ·rw [show (s.parts 5 (BA l) x).2 = s.fail (wrdL true 5 l).errno x by unfold Pz.parts; exact if_neg hz]
  have hz1 : ((wrdL true 5 l).errno == 0) = false := by simpa using hz
  clear H he hz
  go_enter Tryz.func79, Tryz.ntmps79
  go_wp2_with fail
  refine (uh HP).mono ?_
  rintro e w1 ⟨v, rfl, b1, hw⟩
  have HW := hide hw
  have HB := hide b1
  have HF := hide (pfail_any w1 b mp s (wrdL true 5 l).errno x ((uh HH).below b1))
  obtain ⟨ad, cap, hv, _⟩ := hw.len
  subst hv
  clear b1 hw
  go_wp2_with fail
  refine (uh HF).mono ?_
  rintro e w2 ⟨rfl, p2, f2⟩
  have HR := hide (And.intro ((uh HW).fr f2 (uh HLT)) (And.intro p2 ((fr_below (b := b) (uh HB)).trans' f2)))
  clear p2 f2
  go_wp2
  go_ret
  exact ⟨_, rfl, uh HR⟩
theorem wantWord_ok {s : Pz} (h : PzOk s) : s.wantWord.1.text.size ≤ 100000 := by
 unfold Pz.wantWord
 split
 ·exact h.next.1
 ·exact h.misfit.next.1
theorem pword_any (w : World) (b : Nat) (mp : Value) (s : Pz) (H : PzAt w b mp s) (he : WEnv w) (hb : 7 ≤ b) : Calls Tryz.prog 63 #[.pointer (some ⟨b, 0, none⟩)] w fun e w' => ∃ v, e = .returned v ∧ WAt w' (New w w') v s.word.1 ∧ PzAt w' b mp s.word.2 ∧ Fr w w' b := by
 have HW := hide (pwantWord_any w b mp s H)
 have HSZ := hide (wantWord_ok H.ok)
 have HEN := hide he
 have HLT := hide H.lt
 obtain ⟨t, ht⟩ : ∃ t, t = s.wantWord.1 := ⟨_, rfl⟩
 obtain ⟨s1, hs1⟩ : ∃ s1, s1 = s.wantWord.2 := ⟨_, rfl⟩
 have HWD : Hid (s.word = s1.parts 0 (BA t.text.data.toList) t.pos) := hide (by rw [hs1, ht]; rfl)
 rw [← ht, ← hs1] at HW
 rw [← ht] at HSZ
 unfold Tok.cells at HW
 clear ht hs1 he H
 go_enter Tryz.func63, Tryz.ntmps63
 go_wp2_with fail
 refine (uh HW).mono ?_
 rintro e w1 ⟨rfl, p1, f1⟩
 obtain ⟨W2, hW2⟩ : ∃ W2, W2 = w1.alloc (.cells #[.int .i64 t.kind, .string t.text, .int .i64 t.pos, .string t.body, .bool t.raw] 74) := ⟨_, rfl⟩
 obtain ⟨nt, hnt⟩ : ∃ nt, nt = w1.heap.size := ⟨_, rfl⟩
 have hb2 : Below w1.heap.size w1 W2 := by rw [hW2]; exact (Below.refl _ w1).alloc (ler _) _
 have kt : Blk W2 nt 74 #[.int .i64 t.kind, .string t.text, .int .i64 t.pos, .string t.body, .bool t.raw] := by rw [hW2, hnt]; exact Blk.new _ _ _
 have c1 : W2.cell? ⟨nt, 1, none⟩ = some (.string t.text) := kt.cell 1 rfl
 have c2 : W2.cell? ⟨nt, 2, none⟩ = some (.int .i64 t.pos) := kt.cell 2 rfl
 have hf2 : Fr w W2 b := f1.trans' (fr_below hb2)
 have HP := hide (pparts_0 W2 b mp s1 t.text.data.toList t.pos (p1.below hb2) ((uh HEN).fr hf2 hb) (by rw [data_len]; exact uh HSZ))
 rw [BA_of, ← BA_of t.text, ← uh HWD] at HP
 have HF2 := hide hf2
 have HW2 := hide hW2
 have HNT := hide hnt
 clear hW2 hnt hb2 kt hf2 p1 f1 HW
 go_upto_region 2 with fail
 rw [← uh HW2, ← uh HNT]
 go_wp2_with fail
 refine (uh HP).mono ?_
 rintro e w3 ⟨v, rfl, hw, p3, f3⟩
 have HR := hide (And.intro (hw.older (uh HF2).size) (And.intro p3 ((uh HF2).trans' f3)))
 obtain ⟨ad, cap, hv, _⟩ := hw.len
 subst hv
 clear hw p3 f3
 go_wp2
 go_ret
 exact ⟨_, rfl, uh HR⟩
def sgL : List Value := [.string ⟨#[60]⟩, .int .i64 1, .int .i64 0, .string ⟨#[62]⟩, .int .i64 2, .int .i64 1, .string ⟨#[62, 62]⟩, .int .i64 3, .int .i64 1, .string ⟨#[60, 62]⟩, .int .i64 4, .int .i64 0, .string ⟨#[60, 38]⟩, .int .i64 5, .int .i64 0, .string ⟨#[62, 38]⟩, .int .i64 5, .int .i64 1, .string ⟨#[60, 60]⟩, .int .i64 6, .int .i64 0, .string ⟨#[60, 60, 45]⟩, .int .i64 6, .int .i64 0]
structure PEnv (w : World) : Prop where
 we : WEnv w
 sg : w.rangeAt 2 0 sgL
theorem PEnv.grown {w w1 : World} {X : Nat → Prop} (h : PEnv w) (hg : GrownS w w1 X) (hx : ∀ k, X k → 7 ≤ k) : PEnv w1 :=
 ⟨h.we.grown hg hx, fun j v hv => (World.cell?_of_block (w := w) (a := ⟨2, 0 + j, none⟩) (hg.block 2 (by have := h.we.two; omega) (fun e => absurd (hx 2 e) (by decide)))).trans (h.sg j v hv)⟩
theorem PEnv.fr {w w1 : World} {b : Nat} (h : PEnv w) (hf : Fr w w1 b) (hb : 7 ≤ b) : PEnv w1 := h.grown hf (fun k e => by omega)
theorem PEnv.below {w w1 : World} (h : PEnv w) (hb : Below w.heap.size w w1) : PEnv w1 := h.grown (X := fun _ => False) (gsb hb) (fun _ e => e.elim)
theorem und_sg : Tryz.prog.underlying 162 = some (.array 8 161) := by kernel_rfl
theorem info_sg : (Tryz.prog.info? 162).map (·.size) = some sgL.length := by kernel_rfl
theorem sg0 (W : World) : (Instr.index 162 (.agg sgL.toArray) (.int .i64 0)).run Tryz.prog W = .ok (.agg #[.string ⟨#[60]⟩, .int .i64 1, .int .i64 0]) W := by kernel_rfl
theorem sg1 (W : World) : (Instr.index 162 (.agg sgL.toArray) (.int .i64 1)).run Tryz.prog W = .ok (.agg #[.string ⟨#[62]⟩, .int .i64 2, .int .i64 1]) W := by kernel_rfl
theorem sg2 (W : World) : (Instr.index 162 (.agg sgL.toArray) (.int .i64 2)).run Tryz.prog W = .ok (.agg #[.string ⟨#[62, 62]⟩, .int .i64 3, .int .i64 1]) W := by kernel_rfl
theorem sg3 (W : World) : (Instr.index 162 (.agg sgL.toArray) (.int .i64 3)).run Tryz.prog W = .ok (.agg #[.string ⟨#[60, 62]⟩, .int .i64 4, .int .i64 0]) W := by kernel_rfl
theorem sg4 (W : World) : (Instr.index 162 (.agg sgL.toArray) (.int .i64 4)).run Tryz.prog W = .ok (.agg #[.string ⟨#[60, 38]⟩, .int .i64 5, .int .i64 0]) W := by kernel_rfl
theorem sg5 (W : World) : (Instr.index 162 (.agg sgL.toArray) (.int .i64 5)).run Tryz.prog W = .ok (.agg #[.string ⟨#[62, 38]⟩, .int .i64 5, .int .i64 1]) W := by kernel_rfl
theorem sg6 (W : World) : (Instr.index 162 (.agg sgL.toArray) (.int .i64 6)).run Tryz.prog W = .ok (.agg #[.string ⟨#[60, 60]⟩, .int .i64 6, .int .i64 0]) W := by kernel_rfl
theorem sg7 (W : World) : (Instr.index 162 (.agg sgL.toArray) (.int .i64 7)).run Tryz.prog W = .ok (.agg #[.string ⟨#[60, 60, 45]⟩, .int .i64 6, .int .i64 0]) W := by kernel_rfl
theorem sgidx (W : World) (k : Nat) (x : ByteArray × Int × Int) (h : signs[k]? = some x) : (Instr.index 162 (.agg sgL.toArray) (.int .i64 (k : Int))).run Tryz.prog W = .ok (.agg #[.string x.1, .int .i64 x.2.1, .int .i64 x.2.2]) W := by
 match k, h with
 | 0, h =>
   obtain rfl : x = (⟨#[60]⟩, 1, 0) := (Option.some.inj h).symm
   exact sg0 W
 | 1, h =>
   obtain rfl : x = (⟨#[62]⟩, 2, 1) := (Option.some.inj h).symm
   exact sg1 W
 | 2, h =>
   obtain rfl : x = (⟨#[62, 62]⟩, 3, 1) := (Option.some.inj h).symm
   exact sg2 W
 | 3, h =>
   obtain rfl : x = (⟨#[60, 62]⟩, 4, 0) := (Option.some.inj h).symm
   exact sg3 W
 | 4, h =>
   obtain rfl : x = (⟨#[60, 38]⟩, 5, 0) := (Option.some.inj h).symm
   exact sg4 W
 | 5, h =>
   obtain rfl : x = (⟨#[62, 38]⟩, 5, 1) := (Option.some.inj h).symm
   exact sg5 W
 | 6, h =>
   obtain rfl : x = (⟨#[60, 60]⟩, 6, 0) := (Option.some.inj h).symm
   exact sg6 W
 | 7, h =>
   obtain rfl : x = (⟨#[60, 60, 45]⟩, 6, 0) := (Option.some.inj h).symm
   exact sg7 W
 | k + 8, h => simp [signs] at h
theorem sign_at {k : Nat} (h : k < 8) : ∃ x, signs[k]? = some x := ⟨_, List.getElem?_eq_getElem h⟩
theorem redirOf_take {t : ByteArray} {k : Nat} {x : ByteArray × Int × Int} (h : signs[k]? = some x) (hn : ∀ y ∈ signs.take k, y.1 ≠ t) (hx : x.1 = t) : redirOf t = (x.2.2, x.2.1) := by
 have hk := (List.getElem?_eq_some_iff.1 h).1
 have hf : signs.find? (fun y => decide (y.1 = t)) = some x := by
  rw [List.find?_eq_some_iff_append]
  refine ⟨by simpa using hx, signs.take k, signs.drop (k + 1), ?_, fun y hy => by simpa using hn y hy⟩
  obtain ⟨h1, h2⟩ := List.getElem?_eq_some_iff.1 h
  rw [← h2, ← List.drop_eq_getElem_cons h1, List.take_append_drop]
 unfold redirOf
 rw [hf]
theorem redirOf_none {t : ByteArray} (hn : ∀ y ∈ signs, y.1 ≠ t) : redirOf t = (0, 0) := by
 have hf : signs.find? (fun y => decide (y.1 = t)) = none := by
  rw [List.find?_eq_none]
  exact fun y hy => by simpa using hn y hy
 unfold redirOf
 rw [hf]
theorem ne_take {t : ByteArray} {k : Nat} {x : ByteArray × Int × Int} (h : signs[k]? = some x) (hn : ∀ y ∈ signs.take k, y.1 ≠ t) (hx : x.1 ≠ t) : ∀ y ∈ signs.take (k + 1), y.1 ≠ t := by
 intro y hy
 rw [List.take_add_one, h] at hy
 rcases List.mem_append.1 hy with hy | hy
 ·exact hn y hy
 ·simp at hy
  rw [hy]
  exact hx
theorem redirectionOf_any (t : ByteArray) (w : World) (he : PEnv w) : Calls Tryz.prog 141 #[.string t] w fun e w' => e = .returned (.agg #[.int .i64 (redirOf t).1, .int .i64 (redirOf t).2, .slice none 0 0]) ∧ Below w.heap.size w w' := by
 obtain ⟨W1, hW1⟩ : ∃ W1, W1 = w.alloc (.cells #[.int .i64 0, .int .i64 0, .slice none 0 0] 38) := ⟨_, rfl⟩
 obtain ⟨nb, hnb⟩ : ∃ nb, nb = w.heap.size := ⟨_, rfl⟩
 have hb1 : Below w.heap.size w W1 := by rw [hW1]; exact (Below.refl _ _).alloc (ler _) _
 have HKN : Hid (Blk W1 nb 38 #[.int .i64 0, .int .i64 0, .slice none 0 0]) := hide (by rw [hW1, hnb]; exact Blk.new _ _ _)
 have he := he.below hb1
 have HSG := hide he.sg
 obtain ⟨rf, hrf⟩ : ∃ rf, rf = redirOf t := ⟨_, rfl⟩
 rw [← hrf]
 have HRF := hide hrf
 have HW1 := hide hW1
 have HNB := hide hnb
 have HB1 := hide hb1
 clear hW1 hnb hb1 he hrf
 go_enter Tryz.func141, Tryz.ntmps141
 go_upto_region 1 with fail
 rw [← uh HW1, ← uh HNB]
 go_wp2_with (refine wpList_load_mid rfl _ _ rfl 2 0 rfl sgL _ (uh HSG) und_sg rfl info_sg ?_)
 go_loopw [6] (fun i wr => ∃ k : Nat, i = .int .i64 (k : Int) ∧ k ≤ 8 ∧ Hid (∀ y ∈ signs.take k, y.1 ≠ t) ∧ Hid (Below W1.heap.size W1 wr)) (fun i _ => 8 - (intOf i).toNat)
 case atStart => exact ⟨0, rfl, by decide, hide (fun y hy => by simp at hy), hide (Below.refl _ _)⟩
 case round =>
  obtain ⟨k, rfl, hk, HT, HBR⟩ := hrel
  have kn := (uh HKN).below (uh HBR) (uh HKN).lt
  have z0 : wr.cell? ⟨nb, 0, none⟩ = some (.int .i64 0) := kn.cell 0 rfl
  have z1 : wr.cell? ⟨nb, 1, none⟩ = some (.int .i64 0) := kn.cell 1 rfl
  have z2 : wr.cell? ⟨nb, 2, none⟩ = some (.slice none 0 0) := kn.cell 2 rfl
  have zf : ∀ i, wr.frozen? ⟨nb, i, none⟩ = false := fun i => kn.frozen i
  have hk0 : (0 : Int) ≤ (k : Int) := by omega
  by_cases hlt : k < 8
  ·obtain ⟨x, hx⟩ := sign_at hlt
   have hidx := sgidx wr k x hx
   have hk1 : (k : Int) < 8 := by omega
   have HX := hide hx
   clear hx kn
   by_cases e : x.1 = t
   ·have HE := hide e
    rw [e] at hidx
    clear e
    obtain ⟨x0, x1, x2⟩ := x
    simp only at hidx
    have HV : Hid (rf = (x2, x1)) := hide (by rw [uh HRF]; exact redirOf_take (uh HX) (uh HT) (uh HE))
    go_upto_region 5 with fail
    obtain ⟨W5, hW5⟩ : ∃ W5, W5 = wr.alloc (.cells #[.string t, .int .i64 x1, .int .i64 x2] 161) := ⟨_, rfl⟩
    obtain ⟨ns, hns⟩ : ∃ ns, ns = wr.heap.size := ⟨_, rfl⟩
    have ks : Blk W5 ns 161 #[.string t, .int .i64 x1, .int .i64 x2] := by rw [hW5, hns]; exact Blk.new _ _ _
    have kn5 : Blk W5 nb 38 #[.int .i64 0, .int .i64 0, .slice none 0 0] := by rw [hW5]; exact ((uh HKN).below (uh HBR) (uh HKN).lt).alloc _
    have y0 : W5.cell? ⟨nb, 0, none⟩ = some (.int .i64 0) := kn5.cell 0 rfl
    have y1 : W5.cell? ⟨nb, 1, none⟩ = some (.int .i64 0) := kn5.cell 1 rfl
    have y2 : W5.cell? ⟨nb, 2, none⟩ = some (.slice none 0 0) := kn5.cell 2 rfl
    have yf : ∀ i, W5.frozen? ⟨nb, i, none⟩ = false := fun i => kn5.frozen i
    have s1 : W5.cell? ⟨ns, 1, none⟩ = some (.int .i64 x1) := ks.cell 1 rfl
    have s2 : W5.cell? ⟨ns, 2, none⟩ = some (.int .i64 x2) := ks.cell 2 rfl
    have hB5 : Below W1.heap.size W1 W5 := (uh HBR).trans (by rw [hW5]; exact ((Below.refl _ wr).alloc (ler _) _).mono (uh HBR).size)
    have HF : Hid (Blk (((W5.setCell ⟨nb, 0, none⟩ (.int .i64 x2)).setCell ⟨nb, 1, none⟩ (.int .i64 x1)).setCell ⟨nb, 2, none⟩ (.slice none 0 0)) nb 38 #[.int .i64 x2, .int .i64 x1, .slice none 0 0] ∧ Below w.heap.size w (((W5.setCell ⟨nb, 0, none⟩ (.int .i64 x2)).setCell ⟨nb, 1, none⟩ (.int .i64 x1)).setCell ⟨nb, 2, none⟩ (.slice none 0 0))) := hide (by
     refine ⟨((kn5.set 0 _).set 1 _).set 2 _, ?_⟩
     have hg : GrownS W5 (((W5.setCell ⟨nb, 0, none⟩ (.int .i64 x2)).setCell ⟨nb, 1, none⟩ (.int .i64 x1)).setCell ⟨nb, 2, none⟩ (.slice none 0 0)) (fun k => k = nb) := ((fr_set W5 nb 0 _).trans (fr_set _ nb 1 _)).trans (fr_set _ nb 2 _)
     have hB := (uh HB1).trans (hB5.mono (uh HB1).size)
     exact hB.trans (hg.below hB.size (fun k e => by rw [e, uh HNB]; exact ler _)))
    rw [← hW5, ← hns]
    clear hW5 hns ks kn5 hB5 z0 z1 z2 zf hidx
    go_wp2
    refine bodyPost_ret (results_cell_row (P := Tryz.prog) rfl _ _ nb 38 _ (0, 0) _ rfl (uh HF).1 Tryz.underlying38 rfl (by kernel_rfl)) rfl ⟨by rw [uh HV], (uh HF).2⟩
   ·have HNE : Hid (∀ y ∈ signs.take (k + 1), y.1 ≠ t) := hide (ne_take (uh HX) (uh HT) e)
    have he : (x.1.toList == t.toList) = false := by
     rw [beq_eq_false_iff_ne, ByteArray.toList_eq, ByteArray.toList_eq]
     exact fun h => e (ByteArray.ext (Array.ext' h))
    have HBA : Hid (∀ o, Below W1.heap.size W1 (wr.alloc o)) := hide (fun o => (uh HBR).trans (((Below.refl _ wr).alloc (ler _) _).mono (uh HBR).size))
    obtain ⟨x0, x1, x2⟩ := x
    simp only at hidx he
    clear e z0 z1 z2 zf
    go_wp2
    go_roundw
    case rel => exact ⟨k + 1, by go_num, by omega, HNE, hide (uh HBA _)⟩
    case measure => simp [intOf]; omega
  ·have HKE : Hid (k = 8) := hide (by omega)
   have hk1 : ¬ (k : Int) < 8 := by omega
   have HV : Hid (rf = (0, 0)) := hide (by
    rw [uh HRF]
    have h1 := uh HT
    rw [List.take_of_length_le (by have := uh HKE; rw [this]; decide)] at h1
    exact redirOf_none h1)
   have HF : Hid (Blk (((wr.setCell ⟨nb, 0, none⟩ (.int .i64 0)).setCell ⟨nb, 1, none⟩ (.int .i64 0)).setCell ⟨nb, 2, none⟩ (.slice none 0 0)) nb 38 #[.int .i64 0, .int .i64 0, .slice none 0 0] ∧ Below w.heap.size w (((wr.setCell ⟨nb, 0, none⟩ (.int .i64 0)).setCell ⟨nb, 1, none⟩ (.int .i64 0)).setCell ⟨nb, 2, none⟩ (.slice none 0 0))) := hide (by
    refine ⟨((kn.set 0 _).set 1 _).set 2 _, ?_⟩
    have hg : GrownS wr (((wr.setCell ⟨nb, 0, none⟩ (.int .i64 0)).setCell ⟨nb, 1, none⟩ (.int .i64 0)).setCell ⟨nb, 2, none⟩ (.slice none 0 0)) (fun k => k = nb) := ((fr_set wr nb 0 _).trans (fr_set _ nb 1 _)).trans (fr_set _ nb 2 _)
    have hB := (uh HB1).trans ((uh HBR).mono (uh HB1).size)
    exact hB.trans (hg.below hB.size (fun k e => by rw [e, uh HNB]; exact ler _)))
   clear kn
   go_wp2
   refine bodyPost_ret (results_cell_row (P := Tryz.prog) rfl _ _ nb 38 _ (0, 0) _ rfl (uh HF).1 Tryz.underlying38 rfl (by kernel_rfl)) rfl ⟨by rw [uh HV], (uh HF).2⟩
theorem span_dig (s : ByteArray) (w : World) (hs : s.size ≤ 100000) :
 Calls Tryz.prog 119 #[.string s, .func (Fn.func 94) #[] #[]] w fun e w' => e = .returned (.int .i64 (spanN digB s.data.toList)) ∧ w' = w := by
 go_enter Tryz.func119, Tryz.ntmps119
 go_wp2
 go_loop [8] (fun i => ∃ k : Nat, k ≤ s.size ∧ i = .int .i64 k ∧ AllTo digB s.data.toList k) (fun i => s.size - (intOf i).toNat)
 case atStart => exact ⟨0, Nat.zero_le _, rfl, fun j hj hjk => absurd hjk (by omega)⟩
 case round =>
  obtain ⟨k, hk, rfl, hall⟩ := hrel
  by_cases hlt : k < s.size
  ·rcases Bool.eq_false_or_eq_true (digB (s[k].toNat : Int)) with h1 | h1
   ·go_wp2_with (go_at_call 94; refine (digit_any _ _).mono ?_; rintro e w' ⟨rfl, rfl⟩)
    go_round
    case rel => exact ⟨k + 1, by omega, by go_num, hall.succ (by simpa using hlt) (by rw [data_get s k hlt]; exact h1)⟩
    case measure => simp [intOf]; omega
   ·go_wp2_with (go_at_call 94; refine (digit_any _ _).mono ?_; rintro e w' ⟨rfl, rfl⟩)
    go_ret
    exact ⟨ret_int (by rw [spanN_stop digB s.data.toList k (by simpa using hlt) hall (by rw [data_get s k hlt]; exact h1)]), rfl⟩
  ·go_wp2
   go_ret
   exact ⟨ret_int (by rw [spanN_all digB s.data.toList (fun j hj _ => hall j hj (by simp at hj; omega))]; simp), rfl⟩
theorem span_all {p : Int → Bool} : ∀ {l : List UInt8}, spanN p l = l.length → ∀ j (h : j < l.length), p (l[j].toNat : Int) = true
 | c :: l, hl, j, h => by
   rw [spanN_cons] at hl
   by_cases hc : p (c.toNat : Int) = true
   ·rw [if_pos hc, List.length_cons] at hl
    cases j with
    | zero => exact hc
    | succ j => exact span_all (by omega) j (by simpa using h)
   ·rw [if_neg hc] at hl
    cases hl
theorem digN_drop {n : Int} {l : List UInt8} {k : Nat} (h : k < l.length) : digN n (l.drop k) = if (999 - ((l[k].toNat : Int) - 48)) / 10 < n then (0, 3) else digN (10 * n + ((l[k].toNat : Int) - 48)) (l.drop (k + 1)) := by
 rw [List.drop_eq_getElem_cons h, digN]
theorem cnumber_any (s : ByteArray) (w : World) (hs : s.size ≤ 100000) : Calls Tryz.prog 147 #[.string s, .int .i64 999] w fun e w' => e = .returned (.tuple #[.int .i64 (numN s.data.toList).1, .int .i64 (numN s.data.toList).2]) ∧ w' = w := by
 have HSP := hide (span_dig s w hs)
 by_cases h0 : s.size = 0
 ·have he := empty_of h0
  rw [show numN s.data.toList = (0, 10) by unfold numN; rw [if_pos (.inl (List.eq_nil_of_length_eq_zero (by rw [data_len]; exact h0)))]]
  go_enter Tryz.func147, Tryz.ntmps147
  go_wp2
  go_ret2
  exact ⟨rfl, rfl⟩
 ·have hlt : 0 < s.size := by omega
  have he := nonempty_of hlt
  have hne : s.data.toList ≠ [] := fun e => h0 (by rw [← data_len, e]; rfl)
  by_cases hn : spanN digB s.data.toList < s.size
  ·have hn2 : (spanN digB s.data.toList : Int) < (s.size : Int) := by omega
   rw [show numN s.data.toList = (0, 10) by unfold numN; rw [if_pos (.inr (by rw [data_len]; exact hn))]]
   clear hn hne
   go_enter Tryz.func147, Tryz.ntmps147
   go_wp2_with fail
   refine (uh HSP).mono ?_
   rintro e w1 ⟨rfl, hw1⟩
   rw [show w1 = w from hw1]
   clear hw1
   go_wp2
   go_ret2
   exact ⟨rfl, rfl⟩
  ·have hn2 : ¬ (spanN digB s.data.toList : Int) < (s.size : Int) := by omega
   have hsp : spanN digB s.data.toList = s.data.toList.length := by have := spanN_le digB s.data.toList; rw [data_len] at this ⊢; omega
   have HD : Hid (∀ k (h : k < s.size), 48 ≤ (s[k].toNat : Int) ∧ (s[k].toNat : Int) ≤ 57) := hide (fun k h => by
    have := span_all hsp k (by rw [data_len]; exact h)
    rw [data_get s k h] at this
    unfold digB at this
    simpa using this)
   obtain ⟨R, hR⟩ : ∃ R, R = numN s.data.toList := ⟨_, rfl⟩
   rw [← hR]
   have HR : Hid (R = digN 0 s.data.toList) := hide (by rw [hR]; unfold numN; rw [if_neg (by rintro (e | e); exact hne e; rw [data_len] at e; exact hn e)])
   clear hn hne hsp hR
   go_enter Tryz.func147, Tryz.ntmps147
   go_wp2_with fail
   refine (uh HSP).mono ?_
   rintro e w1 ⟨rfl, hw1⟩
   rw [show w1 = w from hw1]
   clear hw1
   go_wp2_with fail
   go_loop [6, 20] (fun a i => ∃ (k : Nat) (n : Int), k ≤ s.size ∧ i = .int .i64 k ∧ a = .int .i64 n ∧ 0 ≤ n ∧ n ≤ 999 ∧ Hid (R = digN n (s.data.toList.drop k))) (fun _ i => s.size - (intOf i).toNat)
   case atStart => exact ⟨0, 0, Nat.zero_le _, rfl, rfl, by omega, by omega, HR⟩
   case round =>
    obtain ⟨k, n, hk, rfl, rfl, hn0, hn1, HE⟩ := hrel
    by_cases hlk : k < s.size
    ·have hkl : k < s.data.toList.length := by rw [data_len]; exact hlk
     obtain ⟨hd1, hd2⟩ := uh HD k hlk
     have HS := hide ((uh HE).trans (digN_drop hkl))
     rw [data_get s k hlk] at HS
     have c1 : ¬ (999 : Int) < (s[k].toNat : Int) - 48 := by omega
     by_cases c2 : (999 - ((s[k].toNat : Int) - 48)) / 10 < n
     ·rw [if_pos c2] at HS
      go_wp2
      go_ret2
      exact ⟨by rw [uh HS]; rfl, rfl⟩
     ·rw [if_neg c2] at HS
      have hb1 : 10 * n + ((s[k].toNat : Int) - 48) ≤ 999 := by omega
      go_wp2
      go_round
      case rel => exact ⟨k + 1, 10 * n + ((s[k].toNat : Int) - 48), by omega, by go_num, by go_num, by omega, by omega, HS⟩
      case measure => simp [intOf]; omega
    ·have HS : Hid (R = (n, 0)) := hide (by rw [uh HE, List.drop_eq_nil_of_le (by rw [data_len]; omega)]; rfl)
     go_wp2
     go_ret2
     exact ⟨by rw [uh HS]; rfl, rfl⟩
theorem hasP_61 (l : List UInt8) : Lib.hasPrefix l [61] = decide (l.head? = some 61) := by
 cases l with
 | nil => rfl
 | cons c r =>
   by_cases h : c = 61
   ·subst h
    rfl
   ·have h2 : ((61 : UInt8) == c) = false := by simpa using fun e => h e.symm
    simp [Lib.hasPrefix, List.isPrefixOf, h2, h]
theorem frontN_le (l : List UInt8) : frontN l ≤ l.length := by
 cases l with
 | nil => exact ler _
 | cons c r =>
   rw [frontN]
   by_cases h : alpB (c.toNat : Int) = true
   ·rw [if_pos h]
    exact spanN_le _ _
   ·rw [if_neg h]
    exact Nat.zero_le _
theorem letName_any (l : List UInt8) (w : World) (hs : l.length ≤ 100000) : Calls Tryz.prog 126 #[.string (BA l)] w fun e w' => e = .returned (.string (BA (letN l))) ∧ w' = w := by
 have HF := hide (front_any (BA l) w hs)
 have hle := frontN_le l
 have hx : (BA l).extract (frontN l) l.length = BA (l.drop (frontN l)) := extract_end (BA l) (frontN l)
 have hy : (BA l).extract 0 (frontN l) = BA (l.take (frontN l)) := by
  have := extract_take (BA l) 0 (frontN l)
  rwa [Nat.zero_add, BA_list, List.drop_zero] at this
 have HP := hide (Tryz.strings_HasPrefix (BA (l.drop (frontN l))) ⟨#[61]⟩ w)
 rw [show Lib.hasPrefix (BA (l.drop (frontN l))).data.toList (⟨#[61]⟩ : ByteArray).data.toList = decide ((l.drop (frontN l)).head? = some 61) from hasP_61 _] at HP
 rw [BA_list] at HF
 obtain ⟨R, hR⟩ : ∃ R, R = letN l := ⟨_, rfl⟩
 rw [← hR]
 unfold letN at hR
 obtain ⟨n, hn⟩ : ∃ n, n = frontN l := ⟨_, rfl⟩
 rw [← hn] at HF HP hx hy hR hle
 have HR := hide hR
 clear hn hR
 by_cases hd : (l.drop n).head? = some 61
 ·rw [decide_eq_true hd] at HP
  have HV : Hid (R = l.take n) := hide (by rw [uh HR, if_pos hd])
  clear hd HR
  go_enter Tryz.func126, Tryz.ntmps126
  go_wp2_with fail
  refine (uh HF).mono ?_
  rintro e w1 ⟨rfl, hw1⟩
  rw [show w1 = w from hw1]
  clear hw1
  go_wp2_with fail
  refine (uh HP).mono ?_
  rintro e w1 ⟨rfl, hw1⟩
  rw [show w1 = w from hw1]
  clear hw1
  go_wp2
  go_ret
  exact ⟨by rw [uh HV]; rfl, rfl⟩
 ·rw [decide_eq_false hd] at HP
  have HV : Hid (R = []) := hide (by rw [uh HR, if_neg hd])
  clear hd HR
  go_enter Tryz.func126, Tryz.ntmps126
  go_wp2_with fail
  refine (uh HF).mono ?_
  rintro e w1 ⟨rfl, hw1⟩
  rw [show w1 = w from hw1]
  clear hw1
  go_wp2_with fail
  refine (uh HP).mono ?_
  rintro e w1 ⟨rfl, hw1⟩
  rw [show w1 = w from hw1]
  clear hw1
  go_wp2
  go_ret
  exact ⟨by rw [uh HV]; rfl, rfl⟩
theorem sees_map (s : Pz) : s.sees (signs.map (·.1)) = signs.any (fun x => decide (s.next.text = x.1)) := by
 unfold Pz.sees
 rw [List.any_map]
 rfl
theorem anyS_take {f : ByteArray × Int × Int → Bool} {k : Nat} {x : ByteArray × Int × Int} (h : signs[k]? = some x) (hn : f x = false) (ht : ((signs.take k).any f) = false) : ((signs.take (k + 1)).any f) = false := by
 rw [List.take_add_one, h, List.any_append, ht]
 simp [hn]
theorem pseesRedir_any (w : World) (b : Nat) (mp : Value) (s : Pz) (H : PzAt w b mp s) (he : PEnv w) : Calls Tryz.prog 124 #[.pointer (some ⟨b, 0, none⟩)] w fun e w' => e = .returned (.bool s.seesRedir) ∧ Below w.heap.size w w' := by
 have HN := hide (pnext_any w b mp s H)
 unfold Tok.cells at HN
 have HF := hide (fld_tok0 s.next)
 have HH := hide H
 have HEN := hide he
 obtain ⟨R, hR⟩ : ∃ R, R = s.seesRedir := ⟨_, rfl⟩
 rw [← hR]
 have HR : Hid (R = (decide (s.next.kind = 4) || signs.any (fun x => decide (s.next.text = x.1)))) := hide (by rw [hR, ← sees_map]; rfl)
 clear H he hR
 by_cases h4 : s.next.kind = 4
 ·have HV : Hid (R = true) := hide (by rw [uh HR, decide_eq_true h4]; rfl)
  have h4b : (s.next.kind == 4) = true := by simpa using h4
  go_enter Tryz.func124, Tryz.ntmps124
  go_wp2_with fail
  refine (uh HN).mono ?_
  rintro e w2 ⟨rfl, b2⟩
  have HB := hide b2
  have hf := uh HF w2
  rw [h4] at hf
  clear b2
  go_wp2
  go_ret
  exact ⟨ret_bool (uh HV).symm, uh HB⟩
 ·have HV : Hid (R = signs.any (fun x => decide (s.next.text = x.1))) := hide (by rw [uh HR, decide_eq_false h4]; rfl)
  have h4b : (s.next.kind == 4) = false := by simpa using h4
  clear h4 HR
  go_enter Tryz.func124, Tryz.ntmps124
  go_wp2_with fail
  refine (uh HN).mono ?_
  rintro e w2 ⟨rfl, b2⟩
  have HB := hide b2
  have hf := uh HF w2
  have HSG := hide ((uh HEN).below b2).sg
  clear b2
  go_wp2_with (refine wpList_load_mid rfl _ _ rfl 2 0 rfl sgL _ (uh HSG) und_sg rfl info_sg ?_)
  go_loopw [10] (fun i wr => ∃ k : Nat, i = .int .i64 (k : Int) ∧ k ≤ 8 ∧ Hid (((signs.take k).any fun x => decide (s.next.text = x.1)) = false) ∧ Hid (Below w.heap.size w wr)) (fun i _ => 8 - (intOf i).toNat)
  case atStart => exact ⟨0, rfl, by decide, hide rfl, HB⟩
  case round =>
   obtain ⟨k, rfl, hk, HT, HBR⟩ := hrel
   have hk0 : (0 : Int) ≤ (k : Int) := by omega
   by_cases hlt : k < 8
   ·obtain ⟨x, hx⟩ := sign_at hlt
    have hidx := sgidx wr k x hx
    have hk1 : (k : Int) < 8 := by omega
    have HX := hide hx
    clear hx
    obtain ⟨x0, x1, x2⟩ := x
    simp only at hidx
    obtain ⟨W5, hW5⟩ : ∃ W5, W5 = wr.alloc (.cells #[.string x0, .int .i64 x1, .int .i64 x2] 161) := ⟨_, rfl⟩
    obtain ⟨ns, hns⟩ : ∃ ns, ns = wr.heap.size := ⟨_, rfl⟩
    have s0 : W5.cell? ⟨ns, 0, none⟩ = some (.string x0) := by rw [hW5, hns]; exact (Blk.new wr 161 #[.string x0, .int .i64 x1, .int .i64 x2]).cell 0 rfl
    have hB5 : Below w.heap.size w W5 := (uh HBR).trans (by rw [hW5]; exact ((Below.refl _ wr).alloc (ler _) _).mono (uh HBR).size)
    have HW5 := hide hW5
    have HNS := hide hns
    have HS : Hid (Calls Tryz.prog 41 #[.pointer (some ⟨b, 0, none⟩), .slice (some ⟨W5.heap.size, 0, none⟩) 1 1] (W5.alloc (.cells #[.string x0] 9)) fun e w' => e = .returned (.bool (decide (s.next.text = x0))) ∧ Below w.heap.size w w') := hide (by
     have hb6 : Below W5.heap.size W5 (W5.alloc (.cells #[.string x0] 9)) := (Below.refl _ _).alloc (ler _) _
     have hB6 := hB5.trans (hb6.mono hB5.size)
     refine (psees_any _ b mp _ s [x0] ((uh HH).below hB6) (srow_new W5 [x0]) (by simp)).mono ?_
     rintro e w' ⟨h1, h2⟩
     refine ⟨?_, hB6.trans (h2.mono hB6.size)⟩
     rw [h1]
     unfold Pz.sees
     simp)
    clear hW5 hns hB5
    by_cases e : s.next.text = x0
    ·rw [decide_eq_true e] at HS
     have HRT : Hid (R = true) := hide (by rw [uh HV]; exact List.any_eq_true.2 ⟨_, List.mem_of_getElem? (uh HX), by simpa using e⟩)
     clear e
     go_upto_region 6 with fail
     rw [← uh HW5, ← uh HNS]
     clear hidx
     go_wp2_with fail
     refine (uh HS).mono ?_
     rintro e w7 ⟨rfl, b7⟩
     have HB7 := hide b7
     clear b7
     go_wp2
     go_ret
     exact ⟨ret_bool (uh HRT).symm, uh HB7⟩
    ·rw [decide_eq_false e] at HS
     have HNE := hide (anyS_take (f := fun x => decide (s.next.text = x.1)) (uh HX) (decide_eq_false e) (uh HT))
     clear e
     go_upto_region 6 with fail
     rw [← uh HW5, ← uh HNS]
     clear hidx
     go_wp2_with fail
     refine (uh HS).mono ?_
     rintro e w7 ⟨rfl, b7⟩
     have HB7 := hide b7
     clear b7
     go_wp2
     go_roundw
     case rel => exact ⟨k + 1, by go_num, by omega, HNE, HB7⟩
     case measure => simp [intOf]; omega
   ·have HKE : Hid (k = 8) := hide (by omega)
    have hk1 : ¬ (k : Int) < 8 := by omega
    have HRT : Hid (R = false) := hide (by
     rw [uh HV]
     have h1 := uh HT
     rwa [List.take_of_length_le (by have := uh HKE; rw [this]; decide)] at h1)
    go_wp2
    go_ret
    exact ⟨ret_bool (uh HRT).symm, uh HBR⟩
end Go.Proofs.YtojjfdobilkknaaGreatDoor

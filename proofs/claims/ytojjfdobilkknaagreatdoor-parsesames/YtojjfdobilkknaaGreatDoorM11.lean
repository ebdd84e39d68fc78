/- The parser's tokens: fail, misfit, sees, skip, want, gap, end, seesWord, wantWord.; The parser's tokens: skip, want, gap, end, seesWord, wantWord.; The reader's methods for things: 'singleQuotes' and 'around' on what stands in it. -/
import Derived.Test.YtojjfdobilkknaaGreatDoorM10
import Derived.Deep.LoopGhost
import Derived.Test.YtojjfdobilkknaaGreatDoorM02
set_option maxRecDepth 20000
set_option maxHeartbeats 8000000
namespace Go.Proofs.YtojjfdobilkknaaGreatDoor
open Go.RowKit
theorem pfail_any (w : World) (b : Nat) (mp : Value) (s : Pz) (x p : Int) (H : PzAt w b mp s) : Calls Tryz.prog 44 #[.pointer (some ⟨b, 0, none⟩), .agg #[.int .i64 x, .int .i64 p]] w fun e w' => e = .returned (.tuple #[]) ∧ PzAt w' b mp (s.fail x p) ∧ Fr w w' b := by
 obtain ⟨W1, hW1⟩ : ∃ W1, W1 = w.alloc (.cells #[.int .i64 x, .int .i64 p] 45) := ⟨_, rfl⟩
 have hb1 : Below w.heap.size w W1 := by rw [hW1]; exact (Below.refl _ _).alloc (ler _) _
 obtain ⟨nb, hnb⟩ : ∃ nb, nb = w.heap.size := ⟨_, rfl⟩
 have HKN : Hid (Blk W1 nb 45 #[.int .i64 x, .int .i64 p]) := hide (by rw [hW1, hnb]; exact Blk.new _ _ _)
 have HH := hide H
 obtain ⟨ho, v, h1, hr⟩ := H
 have k1 := h1.below hb1 h1.lt
 have q6 : W1.cell? ⟨b, 6, none⟩ = some (.int .i64 s.we) := k1.cell 6 rfl
 have q7 : W1.cell? ⟨b, 7, none⟩ = some (.int .i64 s.wp) := k1.cell 7 rfl
 have HIS := hide (pis_any s.we s.wp W1)
 have HW1 := hide hW1
 have HNB := hide hnb
 have HB1 := hide hb1
 have HK1 := hide h1
 have HO := hide ho
 have HRW := hide hr
 clear hW1 hnb hb1 k1 h1 ho hr
 by_cases hz : s.we = 0
 ·have HF : Hid (s.fail x p = { s with toks := [], we := x, wp := p }) := hide (by unfold Pz.fail; rw [if_pos hz])
  rw [hz] at HIS q6
  go_enter Tryz.func44, Tryz.ntmps44
  go_upto_region 1 with fail
  rw [← uh HW1, ← uh HNB]
  go_wp2_with fail
  refine (uh HIS).mono ?_
  rintro e w2 ⟨rfl, b2⟩
  have HB2 : Hid (Below w.heap.size w w2) := hide ((uh HB1).trans (b2.mono (uh HB1).size))
  have kn := (uh HKN).below b2 (uh HKN).lt
  have kb := (uh HK1).below (uh HB2) (uh HK1).lt
  have d0 : w2.cell? ⟨nb, 0, none⟩ = some (.int .i64 x) := kn.cell 0 rfl
  have d1 : w2.cell? ⟨nb, 1, none⟩ = some (.int .i64 p) := kn.cell 1 rfl
  have c0 : w2.cell? ⟨b, 0, none⟩ = some v := kb.cell 0 rfl
  have c6 : w2.cell? ⟨b, 6, none⟩ = some (.int .i64 s.we) := kb.cell 6 rfl
  have c7 : w2.cell? ⟨b, 7, none⟩ = some (.int .i64 s.wp) := kb.cell 7 rfl
  have ff : ∀ i, w2.frozen? ⟨b, i, none⟩ = false := fun i => kb.frozen i
  have hnbb : nb ≠ b := blk_ne' kn kb (by decide)
  have HR : Hid (PzAt (((w2.setCell ⟨b, 6, none⟩ (.int .i64 x)).setCell ⟨b, 7, none⟩ (.int .i64 p)).setCell ⟨b, 0, none⟩ (.slice none 0 0)) b mp (s.fail x p) ∧ Fr w (((w2.setCell ⟨b, 6, none⟩ (.int .i64 x)).setCell ⟨b, 7, none⟩ (.int .i64 p)).setCell ⟨b, 0, none⟩ (.slice none 0 0)) b) := hide (by
   have hL : Fr w (((w2.setCell ⟨b, 6, none⟩ (.int .i64 x)).setCell ⟨b, 7, none⟩ (.int .i64 p)).setCell ⟨b, 0, none⟩ (.slice none 0 0)) b := ((leg_below (uh HB2)).trans (leg_fr (((fr_set w2 b 6 _).trans (fr_set _ b 7 _)).trans (fr_set _ b 0 _)))).fr
   have ho2 := (uh HO).fail x p
   rw [uh HF] at ho2 ⊢
   exact ⟨PzAt.fin (u := .slice none 0 0) hL (((kb.set 6 _).set 7 _).set 0 _) ho2 (TkRow.nil w b none 0 (by decide)), hL⟩)
  clear b2 kn kb q6 q7 HKN HIS HW1 HNB HB1
  go_wp2
  refine bodyPost_end (res0 rfl _ _) rfl ⟨rfl, uh HR⟩
 ·have HF : Hid (s.fail x p = s) := hide (by unfold Pz.fail; rw [if_neg hz])
  have hz1 : (s.we != 0) = true := by simpa using hz
  rw [hz1] at HIS
  go_enter Tryz.func44, Tryz.ntmps44
  go_upto_region 1 with fail
  rw [← uh HW1, ← uh HNB]
  go_wp2_with fail
  refine (uh HIS).mono ?_
  rintro e w2 ⟨rfl, b2⟩
  have HB2 : Hid (Below w.heap.size w w2) := hide ((uh HB1).trans (b2.mono (uh HB1).size))
  clear b2 q6 q7
  go_wp2
  refine bodyPost_end (res0 rfl _ _) rfl ⟨rfl, ?_, gsb (uh HB2)⟩
  rw [uh HF]
  exact (uh HH).below (uh HB2)
theorem Fr.trans' {w w1 w2 : World} {b : Nat} (h : Fr w w1 b) (h2 : Fr w1 w2 b) : Fr w w2 b := GrownS.trans h h2
theorem fr_below {w w1 : World} {b : Nat} (h : Below w.heap.size w w1) : Fr w w1 b := gsb h
theorem fld_tok0 (t : Tok) (w : World) : (Instr.field 74 (.agg #[.int .i64 t.kind, .string t.text, .int .i64 t.pos, .string t.body, .bool t.raw]) 0).run Tryz.prog w = .ok (.int .i64 t.kind) w := by kernel_rfl
theorem fld_tok1 (t : Tok) (w : World) : (Instr.field 74 (.agg #[.int .i64 t.kind, .string t.text, .int .i64 t.pos, .string t.body, .bool t.raw]) 1).run Tryz.prog w = .ok (.string t.text) w := by kernel_rfl
theorem fld_tok2 (t : Tok) (w : World) : (Instr.field 74 (.agg #[.int .i64 t.kind, .string t.text, .int .i64 t.pos, .string t.body, .bool t.raw]) 2).run Tryz.prog w = .ok (.int .i64 t.pos) w := by kernel_rfl
theorem pmisfit_any (w : World) (b : Nat) (mp : Value) (s : Pz) (H : PzAt w b mp s) : Calls Tryz.prog 61 #[.pointer (some ⟨b, 0, none⟩)] w fun e w' => e = .returned (.tuple #[]) ∧ PzAt w' b mp s.misfit ∧ Fr w w' b := by
 have HM := hide (pmore_any w b mp s H)
 have HN := hide (pnext_any w b mp s H)
 unfold Tok.cells at HN
 have HF : Hid (∀ W x p, Below w.heap.size w W → Calls Tryz.prog 44 #[.pointer (some ⟨b, 0, none⟩), .agg #[.int .i64 x, .int .i64 p]] W fun e w' => e = .returned (.tuple #[]) ∧ PzAt w' b mp (s.fail x p) ∧ Fr w w' b) := hide (fun W x p hb => (pfail_any W b mp s x p (H.below hb)).mono (fun e w' ⟨h1, h2, h3⟩ => ⟨h1, h2, (fr_below hb).trans' h3⟩))
 have HIS := hide (pis_any s.be s.bp w)
 have HK : Hid (∀ W, Below w.heap.size w W → W.cell? ⟨b, 3, none⟩ = some (.int .i64 s.size) ∧ W.cell? ⟨b, 4, none⟩ = some (.int .i64 s.be) ∧ W.cell? ⟨b, 5, none⟩ = some (.int .i64 s.bp)) := hide (fun W hb => by
  obtain ⟨ho, v, h1, hr⟩ := H
  have k := h1.below hb h1.lt
  exact ⟨k.cell 3 rfl, k.cell 4 rfl, k.cell 5 rfl⟩)
 obtain ⟨q3, q4, q5⟩ := uh HK w (Below.refl _ _)
 clear H
 cases hm : s.more with
 | true =>
   rw [show s.misfit = s.fail 10 s.next.pos by unfold Pz.misfit; rw [hm]; rfl]
   rw [hm] at HM
   clear hm
   go_enter Tryz.func61, Tryz.ntmps61
   go_wp2_with fail
   refine (uh HM).mono ?_
   rintro e w1 ⟨rfl, hw1⟩
   rw [show w1 = w from hw1]
   clear hw1
   go_wp2_with fail
   refine (uh HN).mono ?_
   rintro e w1 ⟨rfl, b1⟩
   have HB1 := hide b1
   clear b1
   have hfd := fld_tok2 s.next w1
   go_wp2_with fail
   refine (uh HF w1 10 s.next.pos (uh HB1)).mono ?_
   rintro e w2 ⟨rfl, r2⟩
   have HR := hide r2
   clear r2
   go_wp2
   refine bodyPost_end (res0 rfl _ _) rfl ⟨rfl, uh HR⟩
 | false =>
   rw [hm] at HM
   by_cases hz : s.be = 0
   ·rw [show s.misfit = s.fail 10 s.size by unfold Pz.misfit; rw [hm, if_neg (by decide), if_neg (by simpa using hz)]]
    rw [hz] at HIS q4
    clear hm
    go_enter Tryz.func61, Tryz.ntmps61
    go_wp2_with fail
    refine (uh HM).mono ?_
    rintro e w1 ⟨rfl, hw1⟩
    rw [show w1 = w from hw1]
    clear hw1
    go_wp2_with fail
    refine (uh HIS).mono ?_
    rintro e w1 ⟨rfl, b1⟩
    have HB1 := hide b1
    clear b1
    obtain ⟨p3, p4, p5⟩ := uh HK w1 (uh HB1)
    go_wp2_with fail
    refine (uh HF w1 10 s.size (uh HB1)).mono ?_
    rintro e w2 ⟨rfl, r2⟩
    have HR := hide r2
    clear r2
    go_wp2
    refine bodyPost_end (res0 rfl _ _) rfl ⟨rfl, uh HR⟩
   ·rw [show s.misfit = s.fail s.be s.bp by unfold Pz.misfit; rw [hm, if_neg (by decide), if_pos hz]]
    have hz1 : (s.be != 0) = true := by simpa using hz
    rw [hz1] at HIS
    clear hm hz1
    go_enter Tryz.func61, Tryz.ntmps61
    go_wp2_with fail
    refine (uh HM).mono ?_
    rintro e w1 ⟨rfl, hw1⟩
    rw [show w1 = w from hw1]
    clear hw1
    go_wp2_with fail
    refine (uh HIS).mono ?_
    rintro e w1 ⟨rfl, b1⟩
    have HB1 := hide b1
    clear b1
    obtain ⟨p3, p4, p5⟩ := uh HK w1 (uh HB1)
    go_wp2_with fail
    refine (uh HF w1 s.be s.bp (uh HB1)).mono ?_
    rintro e w2 ⟨rfl, r2⟩
    have HR := hide r2
    clear r2
    go_wp2
    refine bodyPost_end (res0 rfl _ _) rfl ⟨rfl, uh HR⟩
def SRow (w : World) (v : Value) (l : List ByteArray) : Prop := ∃ g cap, v = .slice (some ⟨g, 0, none⟩) l.length cap ∧ g < w.heap.size ∧ ∀ (i : Nat) (x : ByteArray), l[i]? = some x → w.cell? ⟨g, i, none⟩ = some (.string x)
theorem SRow.below {w w' : World} {v : Value} {l : List ByteArray} (h : SRow w v l) (hb : Below w.heap.size w w') : SRow w' v l := by
 obtain ⟨g, cap, h1, h2, h3⟩ := h
 exact ⟨g, cap, h1, lle h2 hb.size, fun i x hi => (hb.cell (p := ⟨g, _, none⟩) h2).trans (h3 i x hi)⟩
theorem srow_new (w : World) (l : List ByteArray) : SRow (w.alloc (.cells (l.map Value.string).toArray 9)) (.slice (some ⟨w.heap.size, 0, none⟩) l.length l.length) l := by
 refine ⟨w.heap.size, l.length, rfl, by simp, fun i x hi => ?_⟩
 refine (Blk.new w 9 (l.map Value.string).toArray).cell i ?_
 rw [List.getElem?_toArray, List.getElem?_map, hi]
 rfl
theorem any_take {l : List ByteArray} {f : ByteArray → Bool} {k : Nat} {x : ByteArray} (h : l[k]? = some x) (hn : f x = false) (ht : ((l.take k).any f) = false) : ((l.take (k + 1)).any f) = false := by
 rw [List.take_add_one, h, List.any_append, ht]
 simp [hn]
theorem psees_any (w : World) (b : Nat) (mp v : Value) (s : Pz) (l : List ByteArray) (H : PzAt w b mp s) (hv : SRow w v l) (hl : l.length ≤ 100) : Calls Tryz.prog 41 #[.pointer (some ⟨b, 0, none⟩), v] w fun e w' => e = .returned (.bool (s.sees l)) ∧ Below w.heap.size w w' := by
 have HN := hide (pnext_any w b mp s H)
 unfold Tok.cells at HN
 have HV := hide hv
 obtain ⟨g, cap, rfl, hg, _⟩ := hv
 obtain ⟨n, hn⟩ : ∃ n, n = l.length := ⟨_, rfl⟩
 rw [← hn] at hl ⊢
 have HLN := hide hn
 obtain ⟨t, ht⟩ : ∃ t, t = s.next := ⟨_, rfl⟩
 rw [← ht] at HN
 obtain ⟨rb, hrb⟩ : ∃ rb, rb = s.sees l := ⟨_, rfl⟩
 rw [← hrb]
 have HRB : Hid (rb = l.any fun x => decide (t.text = x)) := hide (by rw [hrb, ht]; rfl)
 clear hn ht hrb H
 go_enter Tryz.func41, Tryz.ntmps41
 go_wp2_with fail
 refine (uh HN).mono ?_
 rintro e w1 ⟨rfl, b1⟩
 obtain ⟨W2, hW2⟩ : ∃ W2, W2 = w1.alloc (.cells #[.int .i64 t.kind, .string t.text, .int .i64 t.pos, .string t.body, .bool t.raw] 74) := ⟨_, rfl⟩
 obtain ⟨nt, hnt⟩ : ∃ nt, nt = w1.heap.size := ⟨_, rfl⟩
 have hB : Below w.heap.size w W2 := b1.trans (by rw [hW2]; exact ((Below.refl _ w1).alloc (ler _) _).mono b1.size)
 have c1 : W2.cell? ⟨nt, 1, none⟩ = some (.string t.text) := by rw [hW2, hnt]; exact (Blk.new w1 74 #[.int .i64 t.kind, .string t.text, .int .i64 t.pos, .string t.body, .bool t.raw]).cell 1 rfl
 have HW2 := hide hW2
 have HNT := hide hnt
 have HB := hide hB
 have HV2 := hide ((uh HV).below hB)
 clear hW2 hnt b1 hB HN HV
 go_upto_region 2 with fail
 rw [← uh HW2, ← uh HNT]
 clear HW2 HNT
 go_wp2_with fail
 go_loop [12] (fun i => ∃ k : Nat, i = .int .i64 k ∧ k ≤ n ∧ Hid (((l.take k).any fun x => decide (t.text = x)) = false)) (fun i => n - (intOf i).toNat)
 case atStart => exact ⟨0, rfl, Nat.zero_le _, hide rfl⟩
 case round =>
  obtain ⟨k, rfl, hk, HT⟩ := hrel
  by_cases hlt : k < n
  ·obtain ⟨x, hx⟩ : ∃ x, l[k]? = some x := ⟨_, List.getElem?_eq_getElem (by have := uh HLN; omega)⟩
   obtain ⟨g', cap', he, _, hc⟩ := uh HV2
   cases he
   have c2 := hc k x hx
   have hk1 : (k : Int) < (n : Int) := by omega
   have hk0 : (0 : Int) ≤ (k : Int) := by omega
   have HX := hide hx
   clear hx hc
   by_cases e : t.text = x
   ·have HE := hide e
    rw [← e] at c2
    clear e
    go_wp2
    go_ret
    refine ⟨ret_bool ?_, uh HB⟩
    rw [uh HRB]
    exact (List.any_eq_true.2 ⟨x, List.mem_of_getElem? (uh HX), by simpa using uh HE⟩).symm
   ·have HE : Hid (decide (t.text = x) = false) := hide (by simpa using e)
    have he : (t.text.toList == x.toList) = false := by
     rw [beq_eq_false_iff_ne, ByteArray.toList_eq, ByteArray.toList_eq]
     exact fun h => e (ByteArray.ext (Array.ext' h))
    clear e
    go_wp2
    go_round
    case rel => exact ⟨k + 1, by go_num, by omega, hide (any_take (uh HX) (uh HE) (uh HT))⟩
    case measure => simp [intOf]; omega
  ·have HKN : Hid (k = n) := hide (by omega)
   go_wp2
   go_ret
   refine ⟨ret_bool ?_, uh HB⟩
   rw [uh HRB]
   have h1 := uh HT
   rw [List.take_of_length_le (by have := uh HLN; have := uh HKN; omega)] at h1
   exact h1.symm
theorem pskip_any (w : World) (b : Nat) (mp : Value) (s : Pz) (t : ByteArray) (H : PzAt w b mp s) : Calls Tryz.prog 39 #[.pointer (some ⟨b, 0, none⟩), .string t] w fun e w' => e = .returned (.bool (s.sees [t])) ∧ PzAt w' b mp (s.skips t) ∧ Fr w w' b := by
 obtain ⟨W1, hW1⟩ : ∃ W1, W1 = w.alloc (.cells #[.string t] 9) := ⟨_, rfl⟩
 have hb1 : Below w.heap.size w W1 := by rw [hW1]; exact (Below.refl _ _).alloc (ler _) _
 have HS : Hid (Calls Tryz.prog 41 #[.pointer (some ⟨b, 0, none⟩), .slice (some ⟨w.heap.size, 0, none⟩) 1 1] W1 fun e w' => e = .returned (.bool (s.sees [t])) ∧ PzAt w' b mp s ∧ Below w.heap.size w w') := hide (by
  have hr : SRow W1 (.slice (some ⟨w.heap.size, 0, none⟩) 1 1) [t] := by rw [hW1]; exact srow_new w [t]
  refine (psees_any W1 b mp _ s [t] (H.below hb1) hr (by simp)).mono ?_
  rintro e w' ⟨h1, h2⟩
  have h3 := hb1.trans (h2.mono hb1.size)
  exact ⟨h1, H.below h3, h3⟩)
 have HW1 := hide hW1
 clear hW1 hb1 H
 cases hs : s.sees [t] with
 | false =>
   rw [hs] at HS
   rw [show s.skips t = s by unfold Pz.skips; rw [hs]; rfl]
   clear hs
   go_enter Tryz.func39, Tryz.ntmps39
   go_wp2_with fail
   rw [← uh HW1]
   refine (uh HS).mono ?_
   rintro e w2 ⟨rfl, p2, b2⟩
   have HR := hide (And.intro p2 (fr_below (b := b) b2))
   clear p2 b2
   go_wp2
   go_ret
   exact ⟨rfl, uh HR⟩
 | true =>
   rw [hs] at HS
   rw [show s.skips t = s.take by unfold Pz.skips; rw [hs]; rfl]
   clear hs
   go_enter Tryz.func39, Tryz.ntmps39
   go_wp2_with fail
   rw [← uh HW1]
   refine (uh HS).mono ?_
   rintro e w2 ⟨rfl, p2, b2⟩
   have HP := hide p2
   have HB := hide b2
   clear p2 b2
   go_wp2_with fail
   refine (ptake_any w2 b mp s (uh HP)).mono ?_
   rintro e w3 ⟨rfl, p3, f3⟩
   have HR := hide (And.intro p3 ((fr_below (b := b) (uh HB)).trans' f3))
   clear p3 f3
   go_wp2
   go_ret
   exact ⟨rfl, uh HR⟩
theorem pwant_any (w : World) (b : Nat) (mp : Value) (s : Pz) (t : ByteArray) (H : PzAt w b mp s) : Calls Tryz.prog 43 #[.pointer (some ⟨b, 0, none⟩), .string t] w fun e w' => e = .returned (.tuple #[]) ∧ PzAt w' b mp (s.want t) ∧ Fr w w' b := by
 have HS := hide (pskip_any w b mp s t H)
 clear H
 cases hs : s.sees [t] with
 | false =>
   rw [hs, show s.skips t = s by unfold Pz.skips; rw [hs]; rfl] at HS
   rw [show s.want t = s.misfit by unfold Pz.want; rw [hs]; rfl]
   clear hs
   go_enter Tryz.func43, Tryz.ntmps43
   go_wp2_with fail
   refine (uh HS).mono ?_
   rintro e w2 ⟨rfl, p2, f2⟩
   have HP := hide p2
   have HB := hide f2
   clear p2 f2
   go_wp2_with fail
   refine (pmisfit_any w2 b mp s (uh HP)).mono ?_
   rintro e w3 ⟨rfl, p3, f3⟩
   have HR := hide (And.intro p3 ((uh HB).trans' f3))
   clear p3 f3
   go_wp2
   refine bodyPost_end (res0 rfl _ _) rfl ⟨rfl, uh HR⟩
 | true =>
   rw [hs, show s.skips t = s.take by unfold Pz.skips; rw [hs]; rfl] at HS
   rw [show s.want t = s.take by unfold Pz.want; rw [hs]; rfl]
   clear hs
   go_enter Tryz.func43, Tryz.ntmps43
   go_wp2_with fail
   refine (uh HS).mono ?_
   rintro e w2 ⟨rfl, r2⟩
   have HR := hide r2
   clear r2
   go_wp2
   refine bodyPost_end (res0 rfl _ _) rfl ⟨rfl, uh HR⟩
theorem sees_none {s : Pz} (h : s.toks = []) (t : ByteArray) (ht : t ≠ ⟨#[]⟩) : s.sees [t] = false := by
 unfold Pz.sees Pz.next
 rw [h]
 show (decide ((⟨#[]⟩ : ByteArray) = t) || false) = false
 rw [decide_eq_false (fun e => ht e.symm)]
 rfl
theorem pgap_any (w : World) (b : Nat) (mp : Value) (s : Pz) (H : PzAt w b mp s) : Calls Tryz.prog 10 #[.pointer (some ⟨b, 0, none⟩)] w fun e w' => e = .returned (.tuple #[]) ∧ PzAt w' b mp s.gap ∧ Fr w w' b := by
 obtain ⟨S, hS⟩ : ∃ S, S = s.gap := ⟨_, rfl⟩
 rw [← hS]
 have HS := hide hS
 have HH := hide H
 clear hS H
 go_enter Tryz.func10, Tryz.ntmps10
 go_wp2_with fail
 go_loopg [] s.toks.length (fun g wr => ∃ s' : Pz, s'.toks.length = g ∧ Hid (Pz.gapN g s' = S ∧ PzAt wr b mp s' ∧ Fr w wr b))
 case atStart => exact ⟨s, rfl, hide ⟨(uh HS).symm, uh HH, fr_refl _ _⟩⟩
 case round =>
  obtain ⟨s', hl, HI⟩ := hrel
  have HK := hide (pskip_any wr b mp s' Pz.nl (uh HI).2.1)
  cases hs : s'.sees [Pz.nl] with
  | false =>
    rw [hs, show s'.skips Pz.nl = s' by unfold Pz.skips; rw [hs]; rfl] at HK
    have HG : Hid (S = s') := hide (by
     rw [← (uh HI).1]
     cases gk with
     | zero => rfl
     | succ n => unfold Pz.gapN; rw [hs]; rfl)
    clear hs
    go_wp2_with fail
    refine (uh HK).mono ?_
    rintro e w2 ⟨rfl, p2, f2⟩
    have HR : Hid (PzAt w2 b mp S ∧ Fr w w2 b) := hide ⟨by rw [uh HG]; exact p2, (uh HI).2.2.trans' f2⟩
    clear p2 f2
    go_wp2
    refine bodyPost_end (res0 rfl _ _) rfl ⟨rfl, uh HR⟩
  | true =>
    rw [hs, show s'.skips Pz.nl = s'.take by unfold Pz.skips; rw [hs]; rfl] at HK
    cases gk with
    | zero =>
      rw [sees_none (List.eq_nil_of_length_eq_zero hl) _ (by decide)] at hs
      cases hs
    | succ n =>
      have HG : Hid (Pz.gapN n s'.take = S) := hide (by
       rw [← (uh HI).1]
       conv => rhs; unfold Pz.gapN
       rw [hs]
       rfl)
      clear hs
      go_wp2_with fail
      refine (uh HK).mono ?_
      rintro e w2 ⟨rfl, p2, f2⟩
      have HR := hide (And.intro (uh HG) (And.intro p2 ((uh HI).2.2.trans' f2)))
      clear p2 f2
      go_wp2
      go_roundg n
      case measure => omega
      case rel => exact ⟨s'.take, by unfold Pz.take; simp; omega, HR⟩
theorem pend_any (w : World) (b : Nat) (mp : Value) (s : Pz) (H : PzAt w b mp s) : Calls Tryz.prog 60 #[.pointer (some ⟨b, 0, none⟩)] w fun e w' => e = .returned (.bool s.ends) ∧ PzAt w' b mp s.endS ∧ Fr w w' b := by
 have HS := hide (pskip_any w b mp s Pz.semi H)
 clear H
 cases hs : s.sees [Pz.semi] with
 | true =>
   rw [hs, show s.skips Pz.semi = s.take by unfold Pz.skips; rw [hs]; rfl] at HS
   rw [show s.ends = true by unfold Pz.ends; rw [hs]; rfl, show s.endS = s.take.gap by unfold Pz.endS Pz.ends; rw [hs]; rfl]
   clear hs
   go_enter Tryz.func60, Tryz.ntmps60
   go_wp2_with fail
   refine (uh HS).mono ?_
   rintro e w2 ⟨rfl, p2, f2⟩
   have HP := hide p2
   have HB := hide f2
   clear p2 f2
   go_wp2_with fail
   refine (pgap_any w2 b mp _ (uh HP)).mono ?_
   rintro e w3 ⟨rfl, p3, f3⟩
   have HR := hide (And.intro p3 ((uh HB).trans' f3))
   clear p3 f3
   go_wp2
   go_ret
   exact ⟨rfl, uh HR⟩
 | false =>
   rw [hs, show s.skips Pz.semi = s by unfold Pz.skips; rw [hs]; rfl] at HS
   cases hn : s.sees [Pz.nl] with
   | true =>
     rw [show s.ends = true by unfold Pz.ends; rw [hs, hn]; rfl, show s.endS = s.take.gap by unfold Pz.endS Pz.ends; rw [hs, hn]; rfl]
     have HT : Hid (s.skips Pz.nl = s.take) := hide (by unfold Pz.skips; rw [hn]; rfl)
     have HN := hide hn
     clear hs hn
     go_enter Tryz.func60, Tryz.ntmps60
     go_wp2_with fail
     refine (uh HS).mono ?_
     rintro e w2 ⟨rfl, p2, f2⟩
     have HP := hide (pskip_any w2 b mp s Pz.nl p2)
     rw [uh HT, uh HN] at HP
     have HB := hide f2
     clear p2 f2
     go_wp2_with fail
     refine (uh HP).mono ?_
     rintro e w3 ⟨rfl, p3, f3⟩
     have HP3 := hide p3
     have HB3 := hide ((uh HB).trans' f3)
     clear p3 f3
     go_wp2_with fail
     refine (pgap_any w3 b mp _ (uh HP3)).mono ?_
     rintro e w4 ⟨rfl, p4, f4⟩
     have HR := hide (And.intro p4 ((uh HB3).trans' f4))
     clear p4 f4
     go_wp2
     go_ret
     exact ⟨rfl, uh HR⟩
   | false =>
     rw [show s.ends = false by unfold Pz.ends; rw [hs, hn]; rfl, show s.endS = s by unfold Pz.endS Pz.ends; rw [hs, hn]; rfl]
     have HT : Hid (s.skips Pz.nl = s) := hide (by unfold Pz.skips; rw [hn]; rfl)
     have HN := hide hn
     clear hs hn
     go_enter Tryz.func60, Tryz.ntmps60
     go_wp2_with fail
     refine (uh HS).mono ?_
     rintro e w2 ⟨rfl, p2, f2⟩
     have HP := hide (pskip_any w2 b mp s Pz.nl p2)
     rw [uh HT, uh HN] at HP
     have HB := hide f2
     clear p2 f2
     go_wp2_with fail
     refine (uh HP).mono ?_
     rintro e w3 ⟨rfl, p3, f3⟩
     have HR := hide (And.intro p3 ((uh HB).trans' f3))
     clear p3 f3
     go_wp2
     go_ret
     exact ⟨rfl, uh HR⟩
theorem pseesWord_any (w : World) (b : Nat) (mp : Value) (s : Pz) (H : PzAt w b mp s) : Calls Tryz.prog 77 #[.pointer (some ⟨b, 0, none⟩)] w fun e w' => e = .returned (.bool s.seesWord) ∧ Below w.heap.size w w' := by
 have HN := hide (pnext_any w b mp s H)
 unfold Tok.cells at HN
 have HF := hide (fld_tok0 s.next)
 have HS : Hid ((s.next.kind == 1) = s.seesWord) := hide (by unfold Pz.seesWord; rw [Bool.eq_iff_iff]; simp)
 clear H
 go_enter Tryz.func77, Tryz.ntmps77
 go_wp2_with fail
 refine (uh HN).mono ?_
 rintro e w2 ⟨rfl, b2⟩
 have HB := hide b2
 have hf := uh HF w2
 clear b2
 go_wp2
 go_ret
 exact ⟨ret_bool (uh HS), uh HB⟩
def ThEnd (w : World) (b : Nat) (t : TypeId) (tl : List Value) (s : ByteArray) (d : Nat) (r : Rs) (en : Ending) (w' : World) : Prop :=
 en = .returned (.tuple #[]) ∧ w.grownBy w' (some b) ∧ match r with
  | .ok m => ∃ q, s.data.toList.drop q = m ∧ Rdr w' b t tl s q d 0 0
  | .err e m => ∃ q d', e ≠ 0 ∧ Rdr w' b t tl s q d' e ((s.size - m.length : Nat) : Int)
def MT (N : Nat) : Prop := ∀ (w : World) (b : Nat) (t : TypeId) (tl : List Value) (s : ByteArray) (p d : Nat) (wh F : Nat), Rdr w b t tl s p d 0 0 → p < s.size → s.size ≤ p + N → wh ≤ 4 → 3 * (s.size - p) + 3 ≤ F → ∀ wv : Int, wv = (wh : Int) →
 Calls Tryz.prog 72 #[.pointer (some ⟨b, 0, none⟩), .int .i64 wv] w fun en w' => ThEnd w b t tl s d (thg F (s.data.toList.drop p) wh d) en w'
theorem single_quotes (w : World) (b : Nat) (t : TypeId) (tl : List Value) (s : ByteArray) (p d : Nat) (r : List UInt8) (h : Rdr w b t tl s p d 0 0) (hm : s.data.toList.drop p = 39 :: r) :
 Calls Tryz.prog 92 #[.pointer (some ⟨b, 0, none⟩)] w fun en w' => ThEnd w b t tl s d (match r.dropWhile (fun x => x != 39) with
  | [] => .err 11 (39 :: r)
  | _ :: r' => .ok r') en w' := by
 obtain ⟨hlt, hd1⟩ := drop_step hm
 have c1 := h.c1
 have c2 := h.c2
 have z2 := h.blk.frozen 2
 have hlen := h.len
 have hrl : r.length = s.size - (p + 1) := by rw [← hd1, List.length_drop, data_len]
 obtain ⟨p1, hp1⟩ : ∃ x, x = p + 1 := ⟨_, rfl⟩
 rw [← hp1] at hd1 hrl
 have hw1 : IntKind.i64.wrap ((p : Int) + 1) = (p1 : Int) := by rw [IntKind.wrap_i64]; omega
 have hp1s : p1 ≤ s.size := by omega
 have HI : Hid (∀ w, Calls Tryz.prog 83 #[.string (s.extract p1 s.size), .int .u8 39] w fun e w' => e = .returned (.int .i64 (Lib.indexByte r 39)) ∧ w' = w) := hide (fun w => by
  have := Tryz.strings_IndexByte (s.extract p1 s.size) 39 w
  rw [extract_end, hd1, BA_list] at this
  rw [extract_end, hd1]
  exact this)
 have H := hide h
 have HM := hide hm
 have HD1 := hide hd1
 have HP1 := hide hp1
 clear h hm hd1
 rcases index_dw r 39 with ⟨h1, h2⟩ | ⟨k, h1, h2, h3⟩
 ·rw [h1] at HI
  rw [h2]
  clear h1 h2 hp1
  go_enter Tryz.func92, Tryz.ntmps92
  go_wp2_with fail
  go_quiet ((go_at_call 83; exact Calls.quiet_of_same (uh HI _)))
  go_wp2_with fail
  refine (fail_any 11 (p : Int) ((uh H).drewN _)).mono ?_
  rintro en w3 ⟨rfl, h3, g3⟩
  have H3 := hide h3
  have G3 := hide g3
  clear h3 g3
  go_wp2
  refine bodyPost_end (res0 rfl _ _) rfl ?_
  refine ⟨rfl, (grown_but (gdn w _) _).trans (uh G3), p, d, by decide, ?_⟩
  rw [← uh HM, place_of (by omega)]
  exact uh H3
 ·rw [h1] at HI
  rw [h3]
  obtain ⟨q, hq⟩ : ∃ x, x = p + (k + 2) := ⟨_, rfl⟩
  have hw2 : IntKind.i64.wrap ((k : Int) + 2) = (k : Int) + 2 := by rw [IntKind.wrap_i64]; omega
  have hw3 : IntKind.i64.wrap ((p : Int) + ((k : Int) + 2)) = (q : Int) := by rw [IntKind.wrap_i64]; omega
  have hk0 : ¬ (k : Int) < 0 := by omega
  have hqs : q ≤ s.size := by omega
  have hdq : s.data.toList.drop q = r.drop (k + 1) := by rw [hq, ← uh HD1, List.drop_drop, uh HP1]; congr 1; omega
  have HDQ := hide hdq
  clear h1 h2 h3 hq hdq hp1
  go_enter Tryz.func92, Tryz.ntmps92
  go_wp2_with fail
  go_quiet ((go_at_call 83; exact Calls.quiet_of_same (uh HI _)))
  go_wp2
  refine bodyPost_end (res0 rfl _ _) rfl ?_
  exact ⟨rfl, (grown_but (gdn w _) _).trans (gsc _ ⟨b, 2, none⟩ _), q, uh HDQ, ((uh H).drewN _).to q hqs⟩
def AroI (w : World) (b : Nat) (t : TypeId) (tl : List Value) (s : ByteArray) (d1 q0 : Nat) (fr : List UInt8) (e : UInt8) (wh : Nat) (T : Rs) (q : Nat) (f1 bl1 : Int) (wr : World) : Prop :=
 ∃ d2, Rdr wr b t tl s q d2 f1 bl1 ∧ w.grownBy wr (some b) ∧ ((f1 = 0 ∧ bl1 = 0 ∧ d2 = d1 ∧ q0 ≤ q ∧ ∃ F, 3 * (s.size - q) + 4 ≤ F ∧ T = lop F (s.data.toList.drop q) fr e wh d1) ∨ (f1 ≠ 0 ∧ ∃ m, T = .err f1 m ∧ bl1 = ((s.size - m.length : Nat) : Int)))
theorem AroI.next {w wr w5 : World} {b : Nat} {t : TypeId} {tl : List Value} {s : ByteArray} {d1 q0 : Nat} {fr : List UInt8} {e : UInt8} {wh : Nat} {T : Rs} {q F : Nat} {en : Ending} {k : Nat} (hR : Rdr wr b t tl s q d1 0 0) (hG : w.grownBy wr (some b)) (hq0 : q0 ≤ q) (hq : q < s.size) (hF : 3 * (s.size - q) + 4 ≤ F + 1)
 (hT : T = match thg F (s.data.toList.drop q) wh d1 with
  | .err x b => .err x b
  | .ok l' => lop F l' fr e wh d1) (h5 : ThEnd (wr.drewN k) b t tl s d1 (thg F (s.data.toList.drop q) wh d1) en w5) :
 ∃ (q' : Nat) (f' bl' : Int), AroI w b t tl s d1 q0 fr e wh T q' f' bl' w5 ∧ msr s b w5 < msr s b wr := by
 obtain ⟨_, g5, h5⟩ := h5
 have hg5 := hG.trans ((grown_but (gdn wr k) _).trans g5)
 have hln := thg_len (F - 1) s[q] (s.data.toList.drop (q + 1)) wh d1
 rw [← drop_at hq, show F - 1 + 1 = F by omega] at hln
 have hdl : (s.data.toList.drop (q + 1)).length = s.size - (q + 1) := by rw [List.length_drop, data_len]
 rw [hR.msr0]
 rcases hth : thg F (s.data.toList.drop q) wh d1 with r' | ⟨x, m⟩
 ·rw [hth] at h5 hln hT
  obtain ⟨q2, hq2, hr2⟩ := h5
  have hl2 : r'.length ≤ (s.data.toList.drop (q + 1)).length := hln
  have hq2l : r'.length = s.size - q2 := by rw [← hq2, List.length_drop, data_len]
  have hq2s := hr2.le
  refine ⟨q2, 0, 0, ⟨d1, hr2, hg5, .inl ⟨rfl, rfl, rfl, by omega, F, by omega, ?_⟩⟩, ?_⟩
  ·rw [hT, hq2]
  ·rw [hr2.msr0]
   omega
 ·rw [hth] at h5 hT
  obtain ⟨q2, d2, hx, hr2⟩ := h5
  refine ⟨q2, x, _, ⟨d2, hr2, hg5, .inr ⟨hx, m, hT, rfl⟩⟩, ?_⟩
  rw [hr2.msr1 hx]
  omega
theorem around_any {N : Nat} (hT : MT N) (w : World) (b : Nat) (t : TypeId) (tl : List Value) (s : ByteArray) (p d : Nat) (n wh F : Nat) (op : ByteArray) (e : UInt8) (h : Rdr w b t tl s p d 0 0) (hop : op.size = n) (hn : p + n ≤ s.size) (hN : s.size ≤ p + n + N) (hwh : wh ≤ 4) (hF : 3 * (s.size - (p + n)) + 5 ≤ F) (wv : Int) (hwv : wv = (wh : Int)) (ev : Int) (hev : ev = (e.toNat : Int)) :
 Calls Tryz.prog 90 #[.pointer (some ⟨b, 0, none⟩), .string op, .int .i64 wv, .int .u8 ev] w fun en w' => ThEnd w b t tl s d (cls F (s.data.toList.drop (p + n)) (s.data.toList.drop p) e wh d) en w' := by
 subst hwv
 have hlen := h.len
 have hple := h.le
 have hdle := h.dle
 obtain ⟨F, rfl⟩ : ∃ G, F = G + 1 := ⟨F - 1, by omega⟩
 rw [cls_succ]
 have c2 := h.c2
 have H := hide h
 have HPL := hide (place_of (s := s) (p := p) (by omega))
 obtain ⟨fr, hfr⟩ : ∃ x, x = s.data.toList.drop p := ⟨_, rfl⟩
 rw [← hfr] at HPL ⊢
 have HEV := hide hev
 clear h hfr hev
 by_cases hd : d = 40
 ·subst hd
  rw [if_pos (ler _)]
  have HEN := hide (enter_no (uh H))
  go_enter Tryz.func90, Tryz.ntmps90
  go_wp2_with fail
  refine (uh HEN).mono ?_
  rintro en w1 ⟨rfl, hw1⟩
  have hw2 := hw1.symm
  subst hw2
  clear hw1
  go_wp2_with fail
  refine (fail_any 3 (p : Int) (uh H)).mono ?_
  rintro en w3 ⟨rfl, h3, g3⟩
  have H3 := hide h3
  have G3 := hide g3
  clear h3 g3
  go_wp2
  refine bodyPost_end (res0 rfl _ _) rfl ?_
  refine ⟨rfl, uh G3, p, 40, by decide, ?_⟩
  rw [uh HPL]
  exact uh H3
 ·have hd' : d < 40 := by omega
  rw [if_neg (by omega)]
  obtain ⟨q0, hq0⟩ : ∃ x, x = p + n := ⟨_, rfl⟩
  rw [← hq0] at hn hN hF ⊢
  have hwq : IntKind.i64.wrap ((p : Int) + (n : Int)) = (q0 : Int) := by rw [IntKind.wrap_i64]; omega
  have hopn : (op.size : Int) = (n : Int) := by omega
  obtain ⟨d1, hd1⟩ : ∃ x, x = d + 1 := ⟨_, rfl⟩
  rw [← hd1]
  have HEN := hide (enter_yes d1 hd1 (uh H) hd')
  have HD := (uh H).deep d1 (by omega)
  have x2 := HD.c2
  have y2 := HD.blk.frozen 2
  have HI : Hid (AroI w b t tl s d1 q0 fr e wh (lop F (s.data.toList.drop q0) fr e wh d1) q0 0 0 ((w.setCell ⟨b, 0, none⟩ (.int .i64 (d1 : Int))).setCell ⟨b, 2, none⟩ (.int .i64 (q0 : Int)))) :=
   hide ⟨d1, HD.to q0 hn, (gsc w ⟨b, 0, none⟩ _).trans (gsc _ ⟨b, 2, none⟩ _), .inl ⟨rfl, rfl, rfl, ler _, F, by omega, rfl⟩⟩
  obtain ⟨T, hT0⟩ : ∃ x, x = lop F (s.data.toList.drop q0) fr e wh d1 := ⟨_, rfl⟩
  rw [← hT0] at HI ⊢
  have HMT := hide hT
  have HD1 := hide hd1
  have hpq : p ≤ q0 := by omega
  clear HD hq0 hF hop hd hT0 hT hd1
  go_enter Tryz.func90, Tryz.ntmps90
  go_wp2_with fail
  refine (uh HEN).mono ?_
  rintro en w1 ⟨rfl, hw1⟩
  subst hw1
  go_wp2_with fail
  go_loopw [44] (fun _ wr => ∃ (q : Nat) (f1 bl1 : Int), Hid (AroI w b t tl s d1 q0 fr e wh T q f1 bl1 wr)) (fun _ wr => msr s b wr)
  case atStart => exact ⟨q0, 0, 0, HI⟩
  case round =>
   clear HI c2 x2 y2
   obtain ⟨q, f1, bl1, HI⟩ := hrel
   obtain ⟨d2, hR, hG, hc⟩ := uh HI
   clear HI
   have hle := hR.le
   have c1 := hR.c1
   have c2 := hR.c2
   have HR := hide hR
   have HG := hide hG
   clear hR hG
   rcases hc with ⟨rfl, rfl, hd2, hqq, F1, hF1, hT1⟩ | ⟨hf1, m, hT1, hbl⟩
   ·subst hd2
    by_cases hq : q < s.size
    ·have hmo : moreB s q 0 = true := by unfold moreB; rw [decide_eq_true hq]; rfl
     have HM : Hid (∀ k, Calls Tryz.prog 28 #[.pointer (some ⟨b, 0, none⟩)] (wr.drewN k) fun e w' => e = .returned (.bool true) ∧ ∃ j, w' = (wr.drewN k).drewN j) := hide (fun k => by
      have := more_any ((uh HR).drewN k)
      rw [hmo] at this
      exact this)
     obtain ⟨F1, rfl⟩ : ∃ G, F1 = G + 1 := ⟨F1 - 1, by omega⟩
     rw [drop_at hq, lop_succ] at hT1
     have hq' : (q : Int) < (s.size : Int) := by omega
     by_cases hbe : s[q] = e
     ·rw [if_pos hbe] at hT1
      have hbv : (s[q].toNat : Int) = ev := by rw [hbe, uh HEV]
      obtain ⟨q1, hq1⟩ : ∃ x, x = q + 1 := ⟨_, rfl⟩
      have hw1 : IntKind.i64.wrap ((q : Int) + 1) = (q1 : Int) := by rw [IntKind.wrap_i64]; omega
      have HT1 := hide (show T = .ok (s.data.toList.drop q1) by rw [hT1, hq1])
      have hq1s : q1 ≤ s.size := by omega
      clear hT1 hbe hq1 hmo
      go_wp2_with fail
      go_quiet ((go_at_call 28; exact Calls.quiet_of (uh HM _)))
      go_wp2_with fail
      refine (uh HM nq).mono ?_
      rintro en w5 ⟨rfl, k5, hw5⟩
      rw [World.drewN_drewN] at hw5
      generalize nq + k5 = k6 at hw5
      subst hw5
      have z2 := ((uh HR).drewN k6).blk.frozen 2
      have x2 := ((uh HR).drewN k6).c2
      go_wp2_with fail
      have h6 := ((uh HR).drewN k6).to q1 hq1s
      refine (leave_any d2 (uh HD1) h6).mono ?_
      rintro en w7 ⟨rfl, hw7⟩
      have h7 := h6.deep d (by omega)
      have H7 := hide h7
      clear h6 h7
      subst hw7
      go_wp2
      refine bodyPost_end (res0 rfl _ _) rfl ?_
      refine ⟨rfl, (uh HG).trans ((grown_but (gdn wr k6) _).trans ((gsc _ ⟨b, 2, none⟩ _).trans (gsc _ ⟨b, 0, none⟩ _))), ?_⟩
      rw [uh HT1]
      exact ⟨q1, rfl, uh H7⟩
     ·rw [if_neg hbe, ← drop_at hq] at hT1
      have hbv : ¬ (s[q].toNat : Int) = ev := by
       rw [uh HEV]
       intro e'
       exact hbe (UInt8.toNat_inj.1 (by omega))
      have HT1 := hide hT1
      have HTH := hide (fun k => uh HMT (wr.drewN k) b t tl s q d2 wh F1 ((uh HR).drewN k) hq (by omega) hwh (by omega) _ rfl)
      clear hT1 hbe hmo
      go_wp2_with fail
      go_quiet ((go_at_call 28; exact Calls.quiet_of (uh HM _)))
      go_wp2_with fail
      refine (uh HTH nq).mono ?_
      intro en w5 h5
      obtain ⟨q', f', bl', hN, hm5⟩ := AroI.next (uh HR) (uh HG) hqq hq hF1 (uh HT1) h5
      obtain ⟨rfl, _⟩ := h5
      have HN5 := hide hN
      have HM5 := hide hm5
      clear hN hm5
      go_wp2
      go_roundw
      case rel => exact ⟨q', f', bl', HN5⟩
      case measure => exact uh HM5
    ·have hmo : moreB s q 0 = false := by unfold moreB; rw [decide_eq_false hq]; rfl
     have HM : Hid (∀ k, Calls Tryz.prog 28 #[.pointer (some ⟨b, 0, none⟩)] (wr.drewN k) fun e w' => e = .returned (.bool false) ∧ ∃ j, w' = (wr.drewN k).drewN j) := hide (fun k => by
      have := more_any ((uh HR).drewN k)
      rw [hmo] at this
      exact this)
     obtain ⟨F1, rfl⟩ : ∃ G, F1 = G + 1 := ⟨F1 - 1, by omega⟩
     rw [drop_nil (by omega), lop_nil] at hT1
     have HT1 := hide hT1
     clear hT1 hmo
     go_wp2_with fail
     go_quiet ((go_at_call 28; exact Calls.quiet_of (uh HM _)))
     go_wp2_with fail
     refine (uh HM nq).mono ?_
     rintro en w5 ⟨rfl, k5, hw5⟩
     rw [World.drewN_drewN] at hw5
     generalize nq + k5 = k6 at hw5
     subst hw5
     go_wp2_with fail
     refine (fail_any 11 (p : Int) ((uh HR).drewN k6)).mono ?_
     rintro en w7 ⟨rfl, h7, g7⟩
     have H7 := hide h7
     have G7 := hide g7
     clear h7 g7
     go_wp2
     refine bodyPost_end (res0 rfl _ _) rfl ?_
     refine ⟨rfl, (uh HG).trans ((grown_but (gdn wr k6) _).trans (uh G7)), ?_⟩
     rw [uh HT1]
     refine ⟨q, d2, by decide, ?_⟩
     rw [uh HPL]
     exact uh H7
   ·have hmo : moreB s q f1 = false := by unfold moreB; rw [show (f1 == 0) = false by simpa using hf1]; rfl
    have HM : Hid (∀ k, Calls Tryz.prog 28 #[.pointer (some ⟨b, 0, none⟩)] (wr.drewN k) fun e w' => e = .returned (.bool false) ∧ ∃ j, w' = (wr.drewN k).drewN j) := hide (fun k => by
     have := more_any ((uh HR).drewN k)
     rw [hmo] at this
     exact this)
    have HT1 := hide (And.intro hf1 (And.intro hT1 hbl))
    clear hT1 hmo hf1 hbl
    go_wp2_with fail
    go_quiet ((go_at_call 28; exact Calls.quiet_of (uh HM _)))
    go_wp2_with fail
    refine (uh HM nq).mono ?_
    rintro en w5 ⟨rfl, k5, hw5⟩
    rw [World.drewN_drewN] at hw5
    generalize nq + k5 = k6 at hw5
    subst hw5
    go_wp2_with fail
    refine (fail_not 11 (p : Int) ((uh HR).drewN k6) (uh HT1).1).mono ?_
    rintro en w7 ⟨rfl, hw7⟩
    have hw8 := hw7.symm
    subst hw8
    clear hw7
    go_wp2
    refine bodyPost_end (res0 rfl _ _) rfl ?_
    refine ⟨rfl, (uh HG).trans (grown_but (gdn wr k6) _), ?_⟩
    rw [(uh HT1).2.1]
    refine ⟨q, d2, (uh HT1).1, ?_⟩
    rw [← (uh HT1).2.2]
    exact (uh HR).drewN k6
end Go.Proofs.YtojjfdobilkknaaGreatDoor

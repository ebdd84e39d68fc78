/-
  'newline' on the lexer's whole state.
-/
import Derived.Test.YtlmpdfeidjnmnaaDoorStep2
namespace Go.Proofs.YtlmpdfeidjnmnaaDoor
open Go.RowKit

theorem takeUpL_wait (st : LS) (x : Wt) : (takeUpL st x).wait = st.wait := by
  unfold takeUpL
  split
  · split
    · rfl
    · unfold LS.fail; split <;> rfl
  · rfl
theorem foldl_wait (l : List Wt) : ∀ st : LS, (l.foldl takeUpL st).wait = st.wait := by
  induction l with
  | nil => intro st; rfl
  | cons x l ih => intro st; rw [List.foldl_cons, ih, takeUpL_wait]

theorem takeUpL_len (st : LS) (x : Wt) : (takeUpL st x).toks.length = st.toks.length := by
  unfold takeUpL
  split
  · split
    · exact List.length_modify _ _ _
    · unfold LS.fail; split <;> rfl
  · rfl
theorem foldl_len (l : List Wt) : ∀ st : LS, (l.foldl takeUpL st).toks.length = st.toks.length := by
  induction l with
  | nil => intro st; rfl
  | cons x l ih => intro st; rw [List.foldl_cons, ih, takeUpL_len]

set_option maxRecDepth 20000 in
set_option maxHeartbeats 4000000 in
theorem newline_state (w : World) (b : Nat) (v u : Value) (s : ByteArray) (r : Nat) (ps ks : List Nat) (st : LS) (R : List UInt8) (m : Int) (h : LexAt w b v u s r ps ks st) (hf : st.flt = 0) (hR : st.rest = 10 :: R) (hl : st.toks.length ≤ 100000) (hw : st.wait.length ≤ 100000) (hm : w.cell? ⟨1, 0, none⟩ = some (.int .i64 m)) (hb1 : 1 < b) :
    Calls Tryd.prog 40 #[.pointer (some ⟨b, 0, none⟩)] w fun e w' => e = .returned (.tuple #[]) ∧ ∃ v' u' r' ps' ks', LexAt w' b v' u' s r' ps' ks' (newlineL { st with rest := R } (r : Int)) ∧ GrownS w w' (fun y => b ≤ y) := by
  have hr := h.rdr
  rw [hf, h.zero hf] at hr
  have hdr := h.rest hf
  rw [hR] at hdr
  have hrs : r < s.size := by
    rcases Nat.lt_or_ge r s.size with h' | h'
    · exact h'
    · rw [drop_nil h'] at hdr; cases hdr
  have hlen := hr.len
  have c2 := hr.c2
  have z2 := hr.blk.frozen 2
  obtain ⟨r1, hr1⟩ : ∃ r1, r1 = r + 1 := ⟨_, rfl⟩
  have hw1 : IntKind.i64.wrap ((r : Int) + 1) = (r1 : Int) := by rw [IntKind.wrap_i64]; omega
  have hd1 : s.data.toList.drop r1 = R := by
    rw [drop_at hrs] at hdr
    injection hdr with _ h2
    rw [hr1]; exact h2
  obtain ⟨w0, hw0⟩ : ∃ w0, w0 = w.setCell ⟨b, 2, none⟩ (.int .i64 (r1 : Int)) := ⟨_, rfl⟩
  have g0 : GrownS w w0 (fun y => y = b) := by rw [hw0]; exact GrownS.of (grown_setCell w ⟨b, 2, none⟩ _) (fun x e => by simpa using e)
  have hx0 : LexAt w0 b v u s r1 ps ks { st with rest := R } := by
    refine ⟨?_, h.toks.grownS g0 (fun y hy e => own_type h.toks.row h.rdr.blk (by decide) (by rw [← e]; exact hy.symm)) (fun p hp e => by have := (h.toks.at hp).1; omega), ?_, fun _ => hd1, h.zero⟩
    · rw [hw0]
      exact h.rdr.to r1 (by omega)
    · refine h.wts.grownS g0 (fun y hy e => own_type h.wts.row h.rdr.blk (by decide) (by rw [← e]; exact hy.symm)) (fun k hk e => ?_)
      obtain ⟨i, hi, rfl⟩ := List.getElem_of_mem hk
      have hi2 : i < st.wait.length := by rw [← h.wts.len]; exact hi
      have := (h.wts.blk i ks[i] st.wait[i] (List.getElem?_eq_getElem hi) (List.getElem?_eq_getElem hi2)).1
      omega
  obtain ⟨ad, cap, rfl, _⟩ := ptr_shape h.wts.row rfl
  obtain ⟨n, hn⟩ : ∃ n, n = ks.length := ⟨_, rfl⟩
  have hnw : n = st.wait.length := by rw [hn]; exact h.wts.len
  rw [← hn] at hx0
  have c6 : w.cell? ⟨b, 6, none⟩ = some (.slice ad n cap) := by rw [hn]; exact hr.blk.cell 6 (by simp)
  obtain ⟨s1, hs1⟩ : ∃ s1, s1 = ({ st with rest := R } : LS) := ⟨_, rfl⟩
  rw [← hs1] at hx0
  have hsw : s1.wait = st.wait := by rw [hs1]
  have hsl : s1.toks.length ≤ 100000 := by rw [hs1]; exact hl
  rw [← hs1]
  have HX0 := hide hx0
  have HG0 := hide (g0.mono (T := fun y => b ≤ y) (fun _ _ e => by omega))
  have HM := hide hm
  have HN := hide hn
  have HNW := hide (show n = s1.wait.length by rw [hsw]; exact hnw)
  have hn1 : n ≤ 100000 := by omega
  have hbl := hr.blk.lt
  clear hs1 hx0 g0 hd1 hr1 hdr hr h hm hR hf hw hl hsw hn hnw
  go_enter Tryd.func40, Tryd.ntmps40
  go_wp2_with fail
  rw [← hw0]
  go_loopw [24] (fun i wr => ∃ (j r' : Nat), j ≤ n ∧ i = .int .i64 j ∧ Hid (LexAt wr b v (.slice ad n cap) s r' ps ks ((s1.wait.take j).foldl takeUpL s1)) ∧ Hid (GrownS w wr (fun y => b ≤ y))) (fun i _ => n - (intOf i).toNat)
  case atStart => exact ⟨0, r1, by omega, rfl, HX0, HG0⟩
  case round =>
    obtain ⟨j, r', hj, rfl, HX, HG⟩ := hrel
    by_cases hlt : j < n
    · have hsh := ptr_shape (unhide HX).wts.row rfl
      obtain ⟨ad', cap', e1, hsh⟩ := hsh
      injection e1 with e1 e2 e3
      subst e1
      have hk1 : j < ks.length := by have := unhide HN; omega
      have hw1' : j < s1.wait.length := by have := unhide HNW; omega
      obtain ⟨k, hk⟩ : ∃ k, ks[j]? = some k := ⟨_, List.getElem?_eq_getElem hk1⟩
      obtain ⟨x, hx⟩ : ∃ x, s1.wait[j]? = some x := ⟨_, List.getElem?_eq_getElem hw1'⟩
      obtain ⟨g, rfl, hg, hcell⟩ := hsh j k hk
      have hmr : wr.cell? ⟨1, 0, none⟩ = some (.int .i64 m) := by
        rw [World.cell?_of_block ((unhide HG).block 1 (by omega) (by omega))]
        exact unhide HM
      have HTU := hide (takeUp_state wr b v _ s r' ps ks _ j k x m (unhide HX) hk (by rw [foldl_wait]; exact hx) hmr hb1)
      have HTK : Hid ((s1.wait.take (j + 1)).foldl takeUpL s1 = takeUpL ((s1.wait.take j).foldl takeUpL s1) x) := hide (by rw [List.take_add_one, hx, List.foldl_append]; rfl)
      have hlt' : (j : Int) < (n : Int) := by omega
      have hk0 : (0 : Int) ≤ (j : Int) := by omega
      clear hk1 hw1' hk hx hsh hg hmr e2 e3 c2 z2 c6
      go_wp2_with fail
      refine (unhide HTU).mono ?_
      rintro en w1 ⟨rfl, r2, hx2, g2⟩
      have HX2 := hide hx2
      have HG2 := hide ((unhide HG).trans g2)
      clear hx2 g2 HTU
      go_wp2
      go_roundw
      case rel => exact ⟨j + 1, r2, by omega, by go_num, hide (by rw [unhide HTK]; exact unhide HX2), HG2⟩
      case measure => simp [intOf]; omega
    · have hjn : j = s1.wait.length := by have := unhide HNW; omega
      have hxe := unhide HX
      rw [hjn, List.take_length] at hxe
      obtain ⟨s2, hs2⟩ : ∃ s2, s2 = s1.wait.foldl takeUpL s1 := ⟨_, rfl⟩
      rw [← hs2] at hxe
      have HNL : Hid (newlineL s1 (r : Int) = if s2.flt = 0 then ({ s2 with wait := [] } : LS).add 3 [10] (r : Int) else s2) := hide (by rw [hs2]; rfl)
      have hl2 : s2.toks.length ≤ 100000 := by rw [hs2, foldl_len]; exact hsl
      have c3 := hxe.rdr.c3
      have d6 : wr.cell? ⟨b, 6, none⟩ = some (.slice ad n cap) := hxe.rdr.blk.cell 6 (by simp)
      have z6 := hxe.rdr.blk.frozen 6
      have HXE := hide hxe
      clear hjn hs2 hxe HX c2 z2 c6
      by_cases hf2 : s2.flt = 0
      · rw [hf2] at c3
        have hr2 := (unhide HXE).rdr
        rw [hf2, (unhide HXE).zero hf2] at hr2
        have hr3 := hr2.waits (.slice none 0 0)
        have g3 : GrownS wr (wr.setCell ⟨b, 6, none⟩ (.slice none 0 0)) (fun y => y = b) := GrownS.of (grown_setCell wr ⟨b, 6, none⟩ _) (fun x e => by simpa using e)
        have ht3 := (unhide HXE).toks.grownS g3 (fun y hy e => own_type (unhide HXE).toks.row (unhide HXE).rdr.blk (by decide) (by rw [← e]; exact hy.symm)) (fun p hp e => by have := ((unhide HXE).toks.at hp).1; omega)
        have HAD := hide (add_any _ b v (.slice none 0 0) s r' 0 ps s2.toks 3 (r : Int) ⟨#[10]⟩ hr3 ht3 hl2)
        have HG3 := hide ((unhide HG).trans (g3.mono (T := fun y => b ≤ y) (fun _ _ e => by omega)))
        have HVB : Hid (∀ y, some y = v.ownBlock → b ≤ y) := hide (fun y hy => by have := (World.ownsRow.lt ht3.row y hy.symm).1; omega)
        clear hr2 hr3 g3 ht3
        go_wp2_with fail
        refine (unhide HAD).mono ?_
        rintro en w4 ⟨rfl, v', q, h4, h5, h6, _⟩
        have HRE := hide h4
        have HTO := hide h5
        have HG4 := hide ((unhide HG3).trans (h6.mono (T := fun y => b ≤ y) (fun y _ e => e.elim (fun e => by omega) (fun e => unhide HVB y e))))
        clear h4 h5 h6 HAD
        go_wp2
        refine bodyPost_end (res0 rfl _ _) rfl ?_
        rw [unhide HNL, if_pos hf2]
        refine ⟨rfl, v', .slice none 0 0, r', ps ++ [q], [], ⟨?_, unhide HTO, wts_nil _ _ _, fun _ => (unhide HXE).rest hf2, fun _ => (unhide HXE).zero hf2⟩, unhide HG4⟩
        show Rdr w4 b 53 [v', .slice none 0 0] s r' 0 s2.flt s2.blm
        rw [hf2, (unhide HXE).zero hf2]
        exact unhide HRE
      · go_wp2
        refine bodyPost_ret (res0 rfl _ _) rfl ?_
        rw [unhide HNL, if_neg hf2]
        exact ⟨rfl, v, _, r', ps, ks, unhide HXE, unhide HG⟩

end Go.Proofs.YtlmpdfeidjnmnaaDoor

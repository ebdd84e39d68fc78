/- 'takeUp' on the lexer's whole state.; 'newline' on the lexer's whole state.; What the pure lexer takes: a byte at least a token; how many tokens there are. -/
import Derived.Test.YtojjfdobilkknaaGreatDoorM07
import Derived.Test.YtojjfdobilkknaaGreatDoorM06
set_option maxRecDepth 20000
set_option maxHeartbeats 4000000
namespace Go.Proofs.YtojjfdobilkknaaGreatDoor
open Go.RowKit
theorem takeUp_state (w : World) (b : Nat) (v u : Value) (s : ByteArray) (r : Nat) (ps ks : List Nat) (st : LS) (i k : Nat) (x : Wt) (m : Int) (h : LexAt w b v u s r ps ks st) (hk : ks[i]? = some k) (hx : st.wait[i]? = some x) (hm : w.cell? ⟨1, 0, none⟩ = some (.int .i64 m)) (hb1 : 1 < b) :
 Calls Tryz.prog 70 #[.pointer (some ⟨b, 0, none⟩), .pointer (some ⟨k, 0, none⟩)] w fun e w' => e = .returned (.tuple #[]) ∧ ∃ r', LexAt w' b v u s r' ps ks (takeUpL st x) ∧ GrownS w w' (fun y => b ≤ y) := by
 obtain ⟨_, q, hq, hkb⟩ := h.wts.blk i k x hk hx
 have hql := (List.getElem?_eq_some_iff.1 hq).1
 obtain ⟨t, ht⟩ : ∃ t, st.toks[x.tok]? = some t := ⟨_, List.getElem?_eq_getElem (by rw [← h.toks.len]; exact hql)⟩
 obtain ⟨hbq, hqb⟩ := h.toks.blk x.tok q t hq ht
 by_cases hf : st.flt = 0
 ·have hr := h.rdr
  rw [hf, h.zero hf] at hr
  refine (takeUp_any w b [v, u] s r 0 k q x.en x.tabs t m hr hkb hqb hm hb1).mono ?_
  rintro e w' ⟨rfl, r', hT⟩
  have hl : s.size - r = st.rest.length := by rw [← h.rest hf, List.length_drop, data_len]
  rw [hl, h.rest hf] at hT
  refine ⟨rfl, r', ?_⟩
  unfold takeUpL
  rw [if_pos hf]
  cases hc : takeL (st.rest.length + 1) x.tabs x.en st.rest [] with
  | none =>
    rw [hc] at hT
    obtain ⟨h1, h2, h3⟩ := hT
    have h3' : GrownS w w' (fun y => y = b ∨ y = q) := h3.mono (fun _ _ e => .inl e)
    have hpos : st.posOf x.tok = t.pos := by unfold LS.posOf; rw [ht]; rfl
    have e1 : (({ st with rest := [] } : LS).fail 12 (st.posOf x.tok)) = { st with rest := [], flt := 12, blm := t.pos } := by
     unfold LS.fail
     rw [if_pos hf, hpos]
    rw [e1]
    refine ⟨⟨h2, ?_, h.wts.past h.rdr.blk hqb h3', fun e => absurd (show (12 : Int) = 0 from e) (by decide), fun e => absurd (show (12 : Int) = 0 from e) (by decide)⟩, h3.mono (fun _ _ e => by omega)⟩
    exact h.toks.grownS h3 (fun y hy e => own_type h.toks.row h.rdr.blk (by decide) (by rw [← e]; exact hy.symm)) (fun p hp e => by have := (h.toks.at hp).1; omega)
  | some br =>
    rw [hc] at hT
    obtain ⟨h1, h2, h3, h4⟩ := hT
    refine ⟨⟨?_, h.toks.swap (fun t => { t with body := BA br.1 }) h.rdr.blk hq ht h3 h4, h.wts.past h.rdr.blk hqb h3, fun _ => h1, fun _ => h.zero hf⟩, h3.mono (fun _ _ e => by omega)⟩
    show Rdr w' b 71 [v, u] s r' 0 st.flt st.blm
    rw [hf, h.zero hf]
    exact h2
 ·refine (takeUp_bad w b [v, u] s r 0 st.flt st.blm k q (BA x.en) x.tabs t h.rdr hf hkb hqb).mono ?_
  rintro e w' ⟨rfl, hb⟩
  have hg : GrownS w w' (fun _ => False) := gsb hb
  have e1 : takeUpL st x = st := by unfold takeUpL; rw [if_neg hf]
  rw [e1]
  exact ⟨rfl, r, ⟨h.rdr.grownS hg (fun e => e), h.toks.grownS hg (fun _ _ e => e) (fun _ _ e => e), h.wts.grownS hg (fun _ _ e => e) (fun _ _ e => e), h.rest, h.zero⟩, hg.mono (fun _ _ e => e.elim)⟩
theorem takeUpL_wait (st : LS) (x : Wt) : (takeUpL st x).wait = st.wait := by
 unfold takeUpL
 split
 ·split
  ·rfl
  ·unfold LS.fail; split <;> rfl
 ·rfl
theorem foldl_wait (l : List Wt) : ∀ st : LS, (l.foldl takeUpL st).wait = st.wait := by
 induction l with
 | nil => intro st; rfl
 | cons x l ih => intro st; rw [List.foldl_cons, ih, takeUpL_wait]
theorem takeUpL_len (st : LS) (x : Wt) : (takeUpL st x).toks.length = st.toks.length := by
 unfold takeUpL
 split
 ·split
  ·exact List.length_modify _ _ _
  ·unfold LS.fail; split <;> rfl
 ·rfl
theorem foldl_len (l : List Wt) : ∀ st : LS, (l.foldl takeUpL st).toks.length = st.toks.length := by
 induction l with
 | nil => intro st; rfl
 | cons x l ih => intro st; rw [List.foldl_cons, ih, takeUpL_len]
theorem newline_state (w : World) (b : Nat) (v u : Value) (s : ByteArray) (r : Nat) (ps ks : List Nat) (st : LS) (R : List UInt8) (m : Int) (h : LexAt w b v u s r ps ks st) (hf : st.flt = 0) (hR : st.rest = 10 :: R) (hl : st.toks.length ≤ 100000) (hw : st.wait.length ≤ 100000) (hm : w.cell? ⟨1, 0, none⟩ = some (.int .i64 m)) (hb1 : 1 < b) :
 Calls Tryz.prog 51 #[.pointer (some ⟨b, 0, none⟩)] w fun e w' => e = .returned (.tuple #[]) ∧ ∃ v' u' r' ps' ks', LexAt w' b v' u' s r' ps' ks' (newlineL { st with rest := R } (r : Int)) ∧ GrownS w w' (fun y => b ≤ y) := by
 have hr := h.rdr
 rw [hf, h.zero hf] at hr
 have hdr := h.rest hf
 rw [hR] at hdr
 have hrs : r < s.size := by
  rcases Nat.lt_or_ge r s.size with h' | h'
  ·exact h'
  ·rw [drop_nil h'] at hdr; cases hdr
 have hlen := hr.len
 have c2 := hr.c2
 have z2 := hr.blk.frozen 2
 obtain ⟨r1, hr1⟩ : ∃ r1, r1 = r + 1 := ⟨_, rfl⟩
 have hw1 : IntKind.i64.wrap ((r : Int) + 1) = (r1 : Int) := by rw [IntKind.wrap_i64]; omega
 have hd1 : s.data.toList.drop r1 = R := by
  rw [drop_at hrs] at hdr
  injection hdr with _ h2
  rw [hr1]; exact h2
 obtain ⟨w0, hw0⟩ : ∃ w0, w0 = w.setCell ⟨b, 2, none⟩ (.int .i64 (r1 : Int)) := ⟨_, rfl⟩
 have g0 : GrownS w w0 (fun y => y = b) := by rw [hw0]; exact GrownS.of (gsc w ⟨b, 2, none⟩ _) (fun x e => by simpa using e)
 have hx0 : LexAt w0 b v u s r1 ps ks { st with rest := R } := by
  refine ⟨?_, h.toks.grownS g0 (fun y hy e => own_type h.toks.row h.rdr.blk (by decide) (by rw [← e]; exact hy.symm)) (fun p hp e => by have := (h.toks.at hp).1; omega), ?_, fun _ => hd1, h.zero⟩
  ·rw [hw0]
   exact h.rdr.to r1 (by omega)
  ·refine h.wts.grownS g0 (fun y hy e => own_type h.wts.row h.rdr.blk (by decide) (by rw [← e]; exact hy.symm)) (fun k hk e => ?_)
   obtain ⟨i, hi, rfl⟩ := List.getElem_of_mem hk
   have hi2 : i < st.wait.length := by rw [← h.wts.len]; exact hi
   have := (h.wts.blk i ks[i] st.wait[i] (List.getElem?_eq_getElem hi) (List.getElem?_eq_getElem hi2)).1
   omega
 obtain ⟨ad, cap, rfl, _⟩ := ptr_shape h.wts.row rfl
 obtain ⟨n, hn⟩ : ∃ n, n = ks.length := ⟨_, rfl⟩
 have hnw : n = st.wait.length := by rw [hn]; exact h.wts.len
 rw [← hn] at hx0
 have c6 : w.cell? ⟨b, 6, none⟩ = some (.slice ad n cap) := by rw [hn]; exact hr.blk.cell 6 (by simp)
 obtain ⟨s1, hs1⟩ : ∃ s1, s1 = ({ st with rest := R } : LS) := ⟨_, rfl⟩
 rw [← hs1] at hx0
 have hsw : s1.wait = st.wait := by rw [hs1]
 have hsl : s1.toks.length ≤ 100000 := by rw [hs1]; exact hl
 rw [← hs1]
 have HX0 := hide hx0
 have HG0 := hide (g0.mono (T := fun y => b ≤ y) (fun _ _ e => by omega))
 have HM := hide hm
 have HN := hide hn
 have HNW := hide (show n = s1.wait.length by rw [hsw]; exact hnw)
 have hn1 : n ≤ 100000 := by omega
 have hbl := hr.blk.lt
 clear hs1 hx0 g0 hd1 hr1 hdr hr h hm hR hf hw hl hsw hn hnw
 go_enter Tryz.func51, Tryz.ntmps51
 go_wp2_with fail
 rw [← hw0]
 go_loopw [24] (fun i wr => ∃ (j r' : Nat), j ≤ n ∧ i = .int .i64 j ∧ Hid (LexAt wr b v (.slice ad n cap) s r' ps ks ((s1.wait.take j).foldl takeUpL s1)) ∧ Hid (GrownS w wr (fun y => b ≤ y))) (fun i _ => n - (intOf i).toNat)
 case atStart => exact ⟨0, r1, by omega, rfl, HX0, HG0⟩
 case round =>
  obtain ⟨j, r', hj, rfl, HX, HG⟩ := hrel
  by_cases hlt : j < n
  ·have hsh := ptr_shape (uh HX).wts.row rfl
   obtain ⟨ad', cap', e1, hsh⟩ := hsh
   injection e1 with e1 e2 e3
   subst e1
   have hk1 : j < ks.length := by have := uh HN; omega
   have hw1' : j < s1.wait.length := by have := uh HNW; omega
   obtain ⟨k, hk⟩ : ∃ k, ks[j]? = some k := ⟨_, List.getElem?_eq_getElem hk1⟩
   obtain ⟨x, hx⟩ : ∃ x, s1.wait[j]? = some x := ⟨_, List.getElem?_eq_getElem hw1'⟩
   obtain ⟨g, rfl, hg, hcell⟩ := hsh j k hk
   have hmr : wr.cell? ⟨1, 0, none⟩ = some (.int .i64 m) := by
    rw [World.cell?_of_block ((uh HG).block 1 (by omega) (by omega))]
    exact uh HM
   have HTU := hide (takeUp_state wr b v _ s r' ps ks _ j k x m (uh HX) hk (by rw [foldl_wait]; exact hx) hmr hb1)
   have HTK : Hid ((s1.wait.take (j + 1)).foldl takeUpL s1 = takeUpL ((s1.wait.take j).foldl takeUpL s1) x) := hide (by rw [List.take_add_one, hx, List.foldl_append]; rfl)
   have hlt' : (j : Int) < (n : Int) := by omega
   have hk0 : (0 : Int) ≤ (j : Int) := by omega
   clear hk1 hw1' hk hx hsh hg hmr e2 e3 c2 z2 c6
   go_wp2_with fail
   refine (uh HTU).mono ?_
   rintro en w1 ⟨rfl, r2, hx2, g2⟩
   have HX2 := hide hx2
   have HG2 := hide ((uh HG).trans g2)
   clear hx2 g2 HTU
   go_wp2
   go_roundw
   case rel => exact ⟨j + 1, r2, by omega, by go_num, hide (by rw [uh HTK]; exact uh HX2), HG2⟩
   case measure => simp [intOf]; omega
  ·have hjn : j = s1.wait.length := by have := uh HNW; omega
   have hxe := uh HX
   rw [hjn, List.take_length] at hxe
   obtain ⟨s2, hs2⟩ : ∃ s2, s2 = s1.wait.foldl takeUpL s1 := ⟨_, rfl⟩
   rw [← hs2] at hxe
   have HNL : Hid (newlineL s1 (r : Int) = if s2.flt = 0 then ({ s2 with wait := [] } : LS).add 3 [10] (r : Int) else s2) := hide (by rw [hs2]; rfl)
   have hl2 : s2.toks.length ≤ 100000 := by rw [hs2, foldl_len]; exact hsl
   have c3 := hxe.rdr.c3
   have d6 : wr.cell? ⟨b, 6, none⟩ = some (.slice ad n cap) := hxe.rdr.blk.cell 6 (by simp)
   have z6 := hxe.rdr.blk.frozen 6
   have HXE := hide hxe
   clear hjn hs2 hxe HX c2 z2 c6
   by_cases hf2 : s2.flt = 0
   ·rw [hf2] at c3
    have hr2 := (uh HXE).rdr
    rw [hf2, (uh HXE).zero hf2] at hr2
    have hr3 := hr2.waits (.slice none 0 0)
    have g3 : GrownS wr (wr.setCell ⟨b, 6, none⟩ (.slice none 0 0)) (fun y => y = b) := GrownS.of (gsc wr ⟨b, 6, none⟩ _) (fun x e => by simpa using e)
    have ht3 := (uh HXE).toks.grownS g3 (fun y hy e => own_type (uh HXE).toks.row (uh HXE).rdr.blk (by decide) (by rw [← e]; exact hy.symm)) (fun p hp e => by have := ((uh HXE).toks.at hp).1; omega)
    have HAD := hide (add_any _ b v (.slice none 0 0) s r' 0 ps s2.toks 3 (r : Int) ⟨#[10]⟩ hr3 ht3 hl2)
    have HG3 := hide ((uh HG).trans (g3.mono (T := fun y => b ≤ y) (fun _ _ e => by omega)))
    have HVB : Hid (∀ y, some y = v.ownBlock → b ≤ y) := hide (fun y hy => by have := (World.ownsRow.lt ht3.row y hy.symm).1; omega)
    clear hr2 hr3 g3 ht3
    go_wp2_with fail
    refine (uh HAD).mono ?_
    rintro en w4 ⟨rfl, v', q, h4, h5, h6, _⟩
    have HRE := hide h4
    have HTO := hide h5
    have HG4 := hide ((uh HG3).trans (h6.mono (T := fun y => b ≤ y) (fun y _ e => e.elim (fun e => by omega) (fun e => uh HVB y e))))
    clear h4 h5 h6 HAD
    go_wp2
    refine bodyPost_end (res0 rfl _ _) rfl ?_
    rw [uh HNL, if_pos hf2]
    refine ⟨rfl, v', .slice none 0 0, r', ps ++ [q], [], ⟨?_, uh HTO, wts_nil _ _ _, fun _ => (uh HXE).rest hf2, fun _ => (uh HXE).zero hf2⟩, uh HG4⟩
    show Rdr w4 b 71 [v', .slice none 0 0] s r' 0 s2.flt s2.blm
    rw [hf2, (uh HXE).zero hf2]
    exact uh HRE
   ·go_wp2
    refine bodyPost_ret (res0 rfl _ _) rfl ?_
    rw [uh HNL, if_neg hf2]
    exact ⟨rfl, v, _, r', ps, ks, uh HXE, uh HG⟩
theorem OpsAt.of {w w1 : World} (h : OpsAt w) (hb : w1.heap[0]? = w.heap[0]?) : OpsAt w1 := by
 have e : ∀ i, w1.cell? ⟨0, i, none⟩ = w.cell? ⟨0, i, none⟩ := fun i => World.cell?_of_block hb
 constructor <;> rw [e]
 ·exact h.at0
 ·exact h.at1
 ·exact h.at2
 ·exact h.at3
 ·exact h.at4
 ·exact h.at5
 ·exact h.at6
 ·exact h.at7
 ·exact h.at8
 ·exact h.at9
 ·exact h.at10
 ·exact h.at11
 ·exact h.at12
 ·exact h.at13
 ·exact h.at14
 ·exact h.at15
theorem OpsAt.grown {w w1 : World} (h : OpsAt w) (hg : w.grownBy w1 none) : OpsAt w1 := by
 refine h.of (hg.block 0 ?_ (by simp))
 rcases Nat.lt_or_ge 0 w.heap.size with h' | h'
 ·exact h'
 ·have := h.at0
  have e : w.heap[0]? = none := Array.getElem?_eq_none h'
  unfold World.cell? at this
  rw [e] at this
  cases this
theorem opL_cases (l : List UInt8) : opL l = [] ∨ (opL l ∈ opsT ∧ Lib.hasPrefix l (opL l) = true) := by
 unfold opL opFrom
 rw [List.drop_zero]
 cases h : opsT.find? (fun o => Lib.hasPrefix l o) with
 | none => exact .inl rfl
 | some o => exact .inr ⟨List.mem_of_find?_eq_some h, List.find?_some h⟩
theorem opL_len (l : List UInt8) : (opL l).length ≤ 3 := by
 rcases opL_cases l with h | ⟨h, _⟩
 ·rw [h]; decide
 ·exact (by decide : ∀ o ∈ opsT, o.length ≤ 3) _ h
theorem opL_pre (l : List UInt8) : opL l <+: l := by
 rcases opL_cases l with h | ⟨_, h⟩
 ·rw [h]; exact List.nil_prefix
 ·exact List.isPrefixOf_iff_prefix.1 h
theorem opL_meta {c : UInt8} {r : List UInt8} (h : opL (c :: r) = []) (hb : blkB (c.toNat : Int) = false) (hn : c ≠ 10) : metB (c.toNat : Int) = false := by
 have hno : ∀ o ∈ opsT, Lib.hasPrefix (c :: r) o = false := by
  intro o ho
  unfold opL opFrom at h
  rw [List.drop_zero] at h
  cases hf : opsT.find? (fun o => Lib.hasPrefix (c :: r) o) with
  | none => simpa using List.find?_eq_none.1 hf o ho
  | some x =>
    rw [hf] at h
    have hx : x ∈ opsT := List.mem_of_find?_eq_some hf
    have hx0 : x = [] := h
    exact absurd hx0 ((by decide : ∀ o ∈ opsT, o ≠ []) x hx)
 have one : ∀ x : UInt8, [x] ∈ opsT → c ≠ x := by
  intro x hx e
  have := hno [x] hx
  rw [hasP_one, e] at this
  simp at this
 have ne : ∀ x : UInt8, c ≠ x → ((c.toNat : Int) == (x.toNat : Int)) = false := by
  intro x hx
  rw [beq_eq_false_iff_ne]
  intro e
  exact hx (UInt8.toNat_inj.1 (by omega))
 unfold blkB at hb
 unfold metB
 rw [hb, show ((c.toNat : Int) == 10) = false from ne 10 hn, show ((c.toNat : Int) == 124) = false from ne 124 (one 124 (by decide)), show ((c.toNat : Int) == 38) = false from ne 38 (one 38 (by decide)), show ((c.toNat : Int) == 59) = false from ne 59 (one 59 (by decide)), show ((c.toNat : Int) == 60) = false from ne 60 (one 60 (by decide)), show ((c.toNat : Int) == 62) = false from ne 62 (one 62 (by decide)), show ((c.toNat : Int) == 40) = false from ne 40 (one 40 (by decide)), show ((c.toNat : Int) == 41) = false from ne 41 (one 41 (by decide))]
 rfl
theorem skL_len : ∀ (f : Nat) (l : List UInt8), (skL f l).length ≤ l.length
 | 0, l => by rw [skL]; exact ler _
 | f + 1, [] => by rw [skL_nil]; exact ler _
 | f + 1, c :: r => by
   rw [skL_cons]
   split
   ·have := skL_len f r; simp; omega
   ·split
    ·have := skL_len f (r.drop 1); simp at this ⊢; omega
    ·split
     ·have := skL_len f (r.dropWhile (fun x => x != 10))
      have := dropWhile_len (fun x => x != 10) r
      simp; omega
     ·exact ler _
theorem skL_head : ∀ (f : Nat) (l : List UInt8), l.length < f → ∀ c r, skL f l = c :: r → blkB (c.toNat : Int) = false ∧ c ≠ 35 ∧ ¬ (c = 92 ∧ r.head? = some 10)
 | 0, l, hf => by omega
 | f + 1, [], hf => by intro c r h; rw [skL_nil] at h; cases h
 | f + 1, a :: l, hf => by
   intro c r h
   simp at hf
   rw [skL_cons] at h
   split at h
   ·exact skL_head f l (by omega) c r h
   ·next hb =>
    split at h
    ·exact skL_head f (l.drop 1) (by simp; omega) c r h
    ·next hp =>
     split at h
     ·exact skL_head f _ (by have := dropWhile_len (fun x => x != 10) l; omega) c r h
     ·next h35 =>
      injection h with h1 h2
      subst h1 h2
      exact ⟨by simpa using hb, h35, hp⟩
theorem wordL_lt {f : Nat} {c : UInt8} {l r : List UInt8} (h : wordL (f + 1) (c :: l) = .ok r) (hm : metB (c.toNat : Int) = false) : r.length ≤ l.length := by
 rw [wordL_cons, if_neg (by rw [hm]; decide)] at h
 split at h
 ·cases h
 ·next l' hl =>
  have h1 := thg_lt hl
  obtain ⟨u, hu⟩ := wordL_suf f h
  have h2 := congrArg List.length hu
  rw [List.length_append] at h2
  omega
theorem takeL_rest : ∀ (f : Nat) (tabs : Bool) (en l acc : List UInt8) (b r : List UInt8), takeL f tabs en l acc = some (b, r) → r.length ≤ l.length
 | 0, _, _, _, _, _, _, h => by cases h
 | _ + 1, _, _, [], _, _, _, h => by cases h
 | f + 1, tabs, en, c :: l, acc, b, r, h => by
   have hd : ((List.dropWhile (fun x => x != 10) (c :: l)).drop 1).length ≤ (c :: l).length := by
    have := dropWhile_len (fun x => x != 10) (c :: l)
    rw [List.length_drop]
    omega
   rw [takeL_hit (L := if tabs then Lib.trimLeftB ((c :: l).takeWhile (fun x => x != 10)) 9 else (c :: l).takeWhile (fun x => x != 10)) (by simp) rfl] at h
   generalize (if tabs then Lib.trimLeftB ((c :: l).takeWhile (fun x => x != 10)) 9 else (c :: l).takeWhile (fun x => x != 10)) = L at h
   by_cases he : L = en
   ·rw [if_pos he] at h
    injection h with h
    injection h with h1 h2
    subst h2
    exact hd
   ·rw [if_neg he] at h
    exact lee (takeL_rest f tabs en _ _ b r h) hd
theorem takeUpL_rest (st : LS) (x : Wt) : (takeUpL st x).rest.length ≤ st.rest.length := by
 unfold takeUpL
 split
 ·split
  ·next body rest h => exact takeL_rest _ _ _ _ _ _ _ h
  ·unfold LS.fail; split <;> simp
 ·exact ler _
theorem foldl_rest (l : List Wt) : ∀ st : LS, (l.foldl takeUpL st).rest.length ≤ st.rest.length := by
 induction l with
 | nil => intro st; exact ler _
 | cons x l ih => intro st; rw [List.foldl_cons]; exact lee (ih _) (takeUpL_rest st x)
theorem awaitL_few (st : LS) (word : List UInt8) : (awaitL st word).rest = st.rest ∧ (awaitL st word).toks.length = st.toks.length ∧ (awaitL st word).wait.length ≤ st.wait.length + 1 := by
 unfold awaitL
 split
 ·exact ⟨rfl, rfl, by omega⟩
 ·split
  ·refine ⟨rfl, List.length_modify _ _ _, ?_⟩
   show (st.wait ++ [_]).length ≤ _
   rw [List.length_append]
   exact ler _
  ·exact ⟨rfl, rfl, by omega⟩
theorem err_all : ∀ f : Nat, (∀ l wh d e b, thg f l wh d = .err e b → e ≠ 0) ∧ (∀ l fr c wh d e b, cls f l fr c wh d = .err e b → e ≠ 0) ∧ (∀ l fr c wh d e b, lop f l fr c wh d = .err e b → e ≠ 0)
 | 0 => ⟨fun l wh d e b h => (by rw [thg] at h; cases h), fun l fr c wh d e b h => (by rw [cls] at h; cases h), fun l fr c wh d e b h => (by rw [lop] at h; cases h)⟩
 | f + 1 => by
   obtain ⟨iT, iC, iL⟩ := err_all f
   refine ⟨fun l wh d e b h => ?_, fun l fr c wh d e b h => ?_, fun l fr c wh d e b h => ?_⟩
   ·cases l with
    | nil => rw [thg] at h; cases h
    | cons x l =>
      rw [thg_succ] at h
      split at h
      ·cases h
      split at h
      ·split at h
       ·cases h
       ·exact iC _ _ _ _ _ _ _ h
      split at h
      ·split at h
       ·cases h
       ·split at h
        ·injection h with h1 h2; rw [← h1]; decide
        ·cases h
      split at h
      ·split at h
       ·exact iC _ _ _ _ _ _ _ h
       ·split at h
        ·exact iC _ _ _ _ _ _ _ h
        ·cases h
      split at h
      ·split at h
       ·exact iC _ _ _ _ _ _ _ h
       ·cases h
      split at h
      ·injection h with h1 h2; rw [← h1]; decide
      ·cases h
   ·rw [cls_succ] at h
    split at h
    ·injection h with h1 h2; rw [← h1]; decide
    ·exact iL _ _ _ _ _ _ _ h
   ·cases l with
    | nil => rw [lop_nil] at h; injection h with h1 h2; rw [← h1]; decide
    | cons x l =>
      rw [lop_succ] at h
      split at h
      ·cases h
      ·split at h
       ·next x' b' hx => injection h with h1 h2; rw [← h1]; exact iT _ _ _ _ _ hx
       ·exact iL _ _ _ _ _ _ _ h
theorem wordL_err : ∀ (f : Nat) {l b : List UInt8} {e : Int}, wordL f l = .err e b → e ≠ 0
 | 0, l, b, e, h => by cases h
 | f + 1, [], b, e, h => by rw [wordL_nil] at h; cases h
 | f + 1, c :: l, b, e, h => by
   rw [wordL_cons] at h
   split at h
   ·cases h
   ·split at h
    ·next e' m' hx => injection h with h1 h2; rw [← h1]; exact (err_all _).1 _ _ _ _ _ hx
    ·exact wordL_err f h
structure FewL (n : Nat) (st : LS) : Prop where
 wait : st.wait.length ≤ st.toks.length
 rest : st.flt = 0 → st.toks.length + st.rest.length ≤ n
 toks : st.toks.length ≤ n
theorem tokenL_few {n : Nat} {st : LS} {c : UInt8} {R : List UInt8} (h : FewL n st) (hf : st.flt = 0) (hr : st.rest = c :: R) (hb : blkB (c.toNat : Int) = false) : FewL n (tokenL n st) ∧ ((tokenL n st).flt = 0 → (tokenL n st).rest.length < st.rest.length) := by
 have h1 := h.rest hf
 have h2 := h.wait
 rw [hr, List.length_cons] at h1
 unfold tokenL
 rw [hr]
 simp only
 split
 ·unfold newlineL
  simp only
  have e1 := foldl_len st.wait { st with rest := R }
  have e2 := foldl_rest st.wait { st with rest := R }
  have e3 := foldl_wait st.wait { st with rest := R }
  have e1' : (st.wait.foldl takeUpL { st with rest := R }).toks.length = st.toks.length := e1
  have e2' : (st.wait.foldl takeUpL { st with rest := R }).rest.length ≤ R.length := e2
  have e3' : (st.wait.foldl takeUpL { st with rest := R }).wait = st.wait := e3
  split
  ·refine ⟨⟨by show 0 ≤ _; omega, fun _ => ?_, ?_⟩, fun _ => ?_⟩
   ·show ((st.wait.foldl takeUpL { st with rest := R }).toks ++ [_]).length + _ ≤ n
    rw [List.length_append, e1']
    show st.toks.length + 1 + (st.wait.foldl takeUpL { st with rest := R }).rest.length ≤ n
    omega
   ·show ((st.wait.foldl takeUpL { st with rest := R }).toks ++ [_]).length ≤ n
    rw [List.length_append, e1']
    show st.toks.length + 1 ≤ n
    omega
   ·show (st.wait.foldl takeUpL { st with rest := R }).rest.length < _
    rw [List.length_cons]
    omega
  ·next hne => exact ⟨⟨by rw [e3', e1']; exact h2, fun e => absurd e hne, by rw [e1']; omega⟩, fun e => absurd e hne⟩
 ·next hc =>
  split
  ·next ho =>
   have hm := opL_meta ho hb hc
   unfold wordTok
   rw [hr]
   simp only [List.length_cons]
   cases hw : wordL (R.length + 1 + 1) (c :: R) with
   | err e m =>
     simp only
     refine ⟨⟨h2, fun _ => ?_, h.toks⟩, fun e0 => ?_⟩
     ·show st.toks.length + (c :: R).length ≤ n
      rw [List.length_cons]; exact h1
     ·exact absurd e0 (wordL_err _ hw)
   | ok r =>
     simp only
     have hlt := wordL_lt hw hm
     split
     ·refine ⟨⟨?_, fun _ => ?_, ?_⟩, fun _ => ?_⟩
      ·show st.wait.length ≤ (st.toks ++ [_]).length
       rw [List.length_append]; omega
      ·show (st.toks ++ [_]).length + r.length ≤ n
       rw [List.length_append, List.length_singleton]; omega
      ·show (st.toks ++ [_]).length ≤ n
       rw [List.length_append, List.length_singleton]; omega
      ·show r.length < R.length + 1
       omega
     ·have ha := awaitL_few { st with rest := r } ((c :: R).take (R.length + 1 - r.length))
      refine ⟨⟨?_, fun _ => ?_, ?_⟩, fun _ => ?_⟩
      ·show (awaitL _ _).wait.length ≤ ((awaitL _ _).toks ++ [_]).length
       rw [List.length_append, List.length_singleton, ha.2.1]
       have := ha.2.2
       show _ ≤ st.toks.length + 1
       have h' : (awaitL { st with rest := r } ((c :: R).take (R.length + 1 - r.length))).wait.length ≤ st.wait.length + 1 := this
       omega
      ·show ((awaitL _ _).toks ++ [_]).length + (awaitL _ _).rest.length ≤ n
       rw [List.length_append, List.length_singleton, ha.2.1, ha.1]
       show st.toks.length + 1 + r.length ≤ n
       omega
      ·show ((awaitL _ _).toks ++ [_]).length ≤ n
       rw [List.length_append, List.length_singleton, ha.2.1]
       show st.toks.length + 1 ≤ n
       omega
      ·show (awaitL _ _).rest.length < R.length + 1
       rw [ha.1]
       show r.length < R.length + 1
       omega
  ·next ho =>
   have hp : 0 < (opL (c :: R)).length := List.length_pos_iff.2 ho
   have hq := (opL_pre (c :: R)).length_le
   rw [List.length_cons] at hq
   refine ⟨⟨?_, fun _ => ?_, ?_⟩, fun _ => ?_⟩
   ·show st.wait.length ≤ (st.toks ++ [_]).length
    rw [List.length_append]; omega
   ·show (st.toks ++ [_]).length + ((c :: R).drop (opL (c :: R)).length).length ≤ n
    rw [List.length_append, List.length_singleton, List.length_drop, List.length_cons]; omega
   ·show (st.toks ++ [_]).length ≤ n
    rw [List.length_append, List.length_singleton]; omega
   ·show ((c :: R).drop (opL (c :: R)).length).length < (c :: R).length
    rw [List.length_drop, List.length_cons]; omega
def skipped (st : LS) : LS := if st.flt = 0 then { st with rest := skL (st.rest.length + 1) st.rest } else st
def finL (n F : Nat) (st : LS) : LS := if st.flt = 0 then (if st.rest = [] then st else loopL n F (tokenL n st)) else st
theorem loopL_fin (n F : Nat) (st : LS) : loopL n (F + 1) st = finL n F (skipped st) := by
 unfold finL skipped
 rw [loopL]
 by_cases h : st.flt = 0
 ·rw [if_pos h, if_pos h]
  simp only [h, if_true]
 ·rw [if_neg h, if_neg h, if_neg h]
theorem skipped_few {n : Nat} {st : LS} (h : FewL n st) : FewL n (skipped st) := by
 unfold skipped
 split
 ·next hf =>
  refine ⟨h.wait, fun _ => ?_, h.toks⟩
  have := h.rest hf
  have := skL_len (st.rest.length + 1) st.rest
  show st.toks.length + (skL _ _).length ≤ n
  omega
 ·exact h
end Go.Proofs.YtojjfdobilkknaaGreatDoor

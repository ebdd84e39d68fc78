/-
  'await' and 'add' on the lexer's whole state.
-/
import Derived.Test.YtlmpdfeidjnmnaaDoorAwait
namespace Go.Proofs.YtlmpdfeidjnmnaaDoor
open Go.RowKit

theorem awaitL_flt (st : LS) (word : List UInt8) : (awaitL st word).flt = st.flt ∧ (awaitL st word).blm = st.blm ∧ (awaitL st word).rest = st.rest ∧ (awaitL st word).toks.length = st.toks.length ∧ (awaitL st word).wait.length ≤ st.wait.length + 1 := by
  unfold awaitL
  split
  · exact ⟨rfl, rfl, rfl, rfl, by omega⟩
  · split
    · refine ⟨rfl, rfl, rfl, List.length_modify _ _ _, ?_⟩
      show (st.wait ++ [_]).length ≤ _
      rw [List.length_append]
      exact Nat.le_refl _
    · exact ⟨rfl, rfl, rfl, rfl, by omega⟩

set_option maxRecDepth 20000 in
set_option maxHeartbeats 4000000 in
theorem await_none (w : World) (b : Nat) (v u : Value) (s : ByteArray) (r : Nat) (ps ks : List Nat) (st : LS) (word : List UInt8) (h : LexAt w b v u s r ps ks st) (ht : st.toks = []) :
    Calls Tryd.prog 54 #[.pointer (some ⟨b, 0, none⟩), .string (BA word)] w fun e w' => e = .returned (.tuple #[]) ∧ w' = w := by
  obtain ⟨ad, cap, hv, _⟩ := ptr_shape h.toks.row rfl
  have hpl : ps.length = 0 := by rw [h.toks.len, ht]; rfl
  rw [hpl] at hv
  subst hv
  have c5 : w.cell? ⟨b, 5, none⟩ = some (.slice ad 0 cap) := h.rdr.blk.cell 5 (by simp)
  clear h ht hpl
  go_enter Tryd.func54, Tryd.ntmps54
  go_wp2
  refine bodyPost_ret (res0 rfl _ _) rfl ?_
  exact ⟨rfl, rfl⟩

set_option maxRecDepth 20000 in
set_option maxHeartbeats 4000000 in
theorem await_other (w : World) (b : Nat) (v u : Value) (s : ByteArray) (r : Nat) (ps ks : List Nat) (st : LS) (word : List UInt8) (q : Nat) (t : Tok) (h : LexAt w b v u s r ps ks st) (hl : st.toks.length ≤ 100000) (hp : ps[st.toks.length - 1]? = some q) (ht : st.toks[st.toks.length - 1]? = some t) (h1 : t.text ≠ ⟨#[60, 60]⟩) (h2 : t.text ≠ ⟨#[60, 60, 45]⟩) :
    Calls Tryd.prog 54 #[.pointer (some ⟨b, 0, none⟩), .string (BA word)] w fun e w' => e = .returned (.tuple #[]) ∧ Below w.heap.size w w' := by
  obtain ⟨n, hn⟩ : ∃ n, n = st.toks.length - 1 := ⟨_, rfl⟩
  have hlen1 : 0 < st.toks.length := by
    have := (List.getElem?_eq_some_iff.1 ht).1
    omega
  rw [← hn] at hp ht
  obtain ⟨hbq, hqb⟩ := h.toks.blk n q t hp ht
  obtain ⟨ad, cap, hv, hsh⟩ := ptr_shape h.toks.row rfl
  obtain ⟨g, hg0, hgl, hcg⟩ := hsh n q hp
  subst hg0
  have hpsl : ps.length = n + 1 := by rw [h.toks.len]; omega
  rw [hpsl] at hv
  subst hv
  obtain ⟨tx, htx⟩ : ∃ tx, tx = t.text := ⟨_, rfl⟩
  rw [← htx] at h1 h2
  have c5 : w.cell? ⟨b, 5, none⟩ = some (.slice (some ⟨g, 0, none⟩) (n + 1) cap) := h.rdr.blk.cell 5 (by simp)
  have q1 : w.cell? ⟨q, 1, none⟩ = some (.string tx) := by rw [htx]; exact hqb.cell 1 rfl
  have hnn : n + 1 ≤ 100000 := by omega
  have hwr : IntKind.i64.wrap (((n + 1 : Nat) : Int) - 1) = (n : Int) := by rw [IntKind.wrap_i64]; omega
  have hz : (((n + 1 : Nat) : Int) == 0) = false := by rw [beq_eq_false_iff_ne]; omega
  have hidx : (n : Int) < ((n + 1 : Nat) : Int) := by omega
  have hn0 : (0 : Int) ≤ (n : Int) := by omega
  have e1 : (tx.toList == [60, 60]) = false := by
    rw [beq_eq_false_iff_ne, ByteArray.toList_eq]
    intro e
    exact h1 (by rw [← BA_of tx, e]; rfl)
  have e2 : (tx.toList == [60, 60, 45]) = false := by
    rw [beq_eq_false_iff_ne, ByteArray.toList_eq]
    intro e
    exact h2 (by rw [← BA_of tx, e]; rfl)
  clear h hqb ht hp htx hn hsh hgl hlen1 hpsl hl h1 h2
  go_enter Tryd.func54, Tryd.ntmps54
  go_wp2_with fail
  go_quiet (fail)
  go_wp2
  refine bodyPost_ret (res0 rfl _ _) rfl ?_
  exact ⟨rfl, below_drew _ _⟩

theorem await_state (w : World) (b : Nat) (v u : Value) (s : ByteArray) (r : Nat) (ps ks : List Nat) (st : LS) (word : List UInt8) (m : Int) (h : LexAt w b v u s r ps ks st) (hw : st.wait.length ≤ 100000) (hl : st.toks.length ≤ 100000) (hwd : word.length ≤ 100000) (hm : w.cell? ⟨1, 0, none⟩ = some (.int .i64 m)) (hb1 : 1 < b) :
    Calls Tryd.prog 54 #[.pointer (some ⟨b, 0, none⟩), .string (BA word)] w fun e w' => e = .returned (.tuple #[]) ∧ ∃ u' ks', LexAt w' b v u' s r ps ks' (awaitL st word) ∧ GrownS w w' (fun y => b ≤ y) := by
  by_cases h0 : st.toks = []
  · refine (await_none w b v u s r ps ks st word h h0).mono ?_
    rintro e w' ⟨rfl, rfl⟩
    refine ⟨rfl, u, ks, ?_, grownS_of_below (Below.refl _ _)⟩
    have : awaitL st word = st := by unfold awaitL; rw [h0]; rfl
    rw [this]
    exact h
  · have hlen : 0 < st.toks.length := List.length_pos_iff.2 h0
    obtain ⟨t, ht⟩ : ∃ t, st.toks[st.toks.length - 1]? = some t := ⟨_, List.getElem?_eq_getElem (by omega)⟩
    obtain ⟨q, hq⟩ : ∃ q, ps[st.toks.length - 1]? = some q := ⟨_, List.getElem?_eq_getElem (by rw [h.toks.len]; omega)⟩
    by_cases h1 : t.text = ⟨#[60, 60]⟩
    · exact await_two w b v u s r ps ks st word m q t h hw hl hwd hm hb1 hq ht h1
    by_cases h2 : t.text = ⟨#[60, 60, 45]⟩
    · exact await_dash w b v u s r ps ks st word m q t h hw hl hwd hm hb1 hq ht h2
    refine (await_other w b v u s r ps ks st word q t h hl hq ht h1 h2).mono ?_
    rintro e w' ⟨rfl, hb⟩
    refine ⟨rfl, u, ks, ?_, grownS_of_below hb⟩
    have : awaitL st word = st := by
      unfold awaitL
      rw [List.getLast?_eq_getElem?, ht]
      show (if t.text = BA [60, 60] ∨ t.text = BA [60, 60, 45] then _ else st) = st
      rw [if_neg]
      rintro (e | e)
      · exact h1 e
      · exact h2 e
    rw [this]
    exact h.below hb (Nat.le_refl _)

theorem add_state (w : World) (b : Nat) (v u : Value) (s : ByteArray) (r : Nat) (ps ks : List Nat) (st : LS) (kind pos : Int) (text : List UInt8) (h : LexAt w b v u s r ps ks st) (hf : st.flt = 0) (hl : st.toks.length ≤ 100000) :
    Calls Tryd.prog 41 #[.pointer (some ⟨b, 0, none⟩), .int .i64 kind, .string (BA text), .int .i64 pos] w fun e w' => e = .returned (.tuple #[]) ∧ ∃ v' ps', LexAt w' b v' u s r ps' ks (st.add kind text pos) ∧ GrownS w w' (fun y => b ≤ y) := by
  have hr := h.rdr
  rw [hf, h.zero hf] at hr
  refine (add_any w b v u s r 0 ps st.toks kind pos (BA text) hr h.toks hl).mono ?_
  rintro e w' ⟨rfl, v', q, h1, h2, h3, hq⟩
  refine ⟨rfl, v', ps ++ [q], ⟨?_, h2, ?_, h.rest, h.zero⟩, h3.mono ?_⟩
  · show Rdr w' b 53 [v', u] s r 0 st.flt st.blm
    rw [hf, h.zero hf]
    exact h1
  · refine (h.wts.grownS h3 ?_ ?_).more [q]
    · rintro k hk (rfl | e)
      · exact own_type h.wts.row h.rdr.blk (by decide) hk.symm
      · exact rows_ne h.wts.row h.toks.row (by decide) hk e
    · rintro k hk (rfl | e)
      · have := (h.wts.at hk).1; omega
      · obtain ⟨_, C, hC⟩ := h.wts.at hk
        exact own_type h.toks.row hC (by decide) e
  · rintro k _ (rfl | e)
    · exact Nat.le_refl _
    · have := (World.ownsRow.lt h.toks.row k e.symm).1
      omega

/-- The lexer in block b is as far as st, at whatever depth where something is wrong. -/
structure LexX (w : World) (b : Nat) (v u : Value) (s : ByteArray) (r d : Nat) (ps ks : List Nat) (st : LS) : Prop where
  rdr : Rdr w b 53 [v, u] s r d st.flt st.blm
  toks : Toks w (b + 1) v ps st.toks
  wts : Wts w (b + 1) u ks ps st.wait
  rest : st.flt = 0 → s.data.toList.drop r = st.rest
  zero : st.flt = 0 → st.blm = 0
  deep : st.flt = 0 → d = 0
theorem LexAt.x {w : World} {b : Nat} {v u : Value} {s : ByteArray} {r : Nat} {ps ks : List Nat} {st : LS} (h : LexAt w b v u s r ps ks st) : LexX w b v u s r 0 ps ks st := ⟨h.rdr, h.toks, h.wts, h.rest, h.zero, fun _ => rfl⟩
theorem LexX.ok {w : World} {b : Nat} {v u : Value} {s : ByteArray} {r d : Nat} {ps ks : List Nat} {st : LS} (h : LexX w b v u s r d ps ks st) (hf : st.flt = 0) : LexAt w b v u s r ps ks st := by
  have := h.rdr
  rw [h.deep hf] at this
  exact ⟨this, h.toks, h.wts, h.rest, h.zero⟩
theorem LexX.below {w w1 : World} {b : Nat} {v u : Value} {s : ByteArray} {r d : Nat} {ps ks : List Nat} {st : LS} (h : LexX w b v u s r d ps ks st) {n : Nat} (hb : Below n w w1) (hn : w.heap.size ≤ n) : LexX w1 b v u s r d ps ks st := by
  have hg : GrownS w w1 (fun _ => False) := ⟨hb.os, hb.tape, hb.output, hb.size, fun k hk _ => hb.block k (by omega)⟩
  exact ⟨h.rdr.grownS hg (fun e => e), h.toks.grownS hg (fun _ _ e => e) (fun _ _ e => e), h.wts.grownS hg (fun _ _ e => e) (fun _ _ e => e), h.rest, h.zero, h.deep⟩
/-- The lexer's own block has turned, and no other one. -/
theorem LexX.move {w w1 : World} {b : Nat} {v u : Value} {s : ByteArray} {r d r1 d1 : Nat} {ps ks : List Nat} {st st1 : LS} (h : LexX w b v u s r d ps ks st) (hg : w.grownBy w1 (some b)) (hr : Rdr w1 b 53 [v, u] s r1 d1 st1.flt st1.blm) (ht : st1.toks = st.toks) (hw : st1.wait = st.wait) (h1 : st1.flt = 0 → s.data.toList.drop r1 = st1.rest) (h2 : st1.flt = 0 → st1.blm = 0) (h3 : st1.flt = 0 → d1 = 0) : LexX w1 b v u s r1 d1 ps ks st1 := by
  have g : GrownS w w1 (fun y => y = b) := GrownS.of hg (fun x e => by simpa using e)
  refine ⟨hr, ?_, ?_, h1, h2, h3⟩
  · rw [ht]
    exact h.toks.grownS g (fun y hy e => own_type h.toks.row h.rdr.blk (by decide) (by rw [← e]; exact hy.symm)) (fun p hp e => by have := (h.toks.at hp).1; omega)
  · rw [hw]
    exact h.wts.grownS g (fun y hy e => own_type h.wts.row h.rdr.blk (by decide) (by rw [← e]; exact hy.symm)) (fun k hk e => by have := (h.wts.at hk).1; omega)

end Go.Proofs.YtlmpdfeidjnmnaaDoor

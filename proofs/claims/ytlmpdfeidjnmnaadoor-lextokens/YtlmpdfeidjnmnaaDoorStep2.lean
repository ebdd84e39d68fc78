/-
  'takeUp' on the lexer's whole state.
-/
import Derived.Test.YtlmpdfeidjnmnaaDoorStep
namespace Go.Proofs.YtlmpdfeidjnmnaaDoor
open Go.RowKit

theorem grownS_of_below {w w1 : World} {S : Nat → Prop} (h : Below w.heap.size w w1) : GrownS w w1 S := ⟨h.os, h.tape, h.output, h.size, fun k hk _ => h.block k hk⟩

theorem takeUp_state (w : World) (b : Nat) (v u : Value) (s : ByteArray) (r : Nat) (ps ks : List Nat) (st : LS) (i k : Nat) (x : Wt) (m : Int) (h : LexAt w b v u s r ps ks st) (hk : ks[i]? = some k) (hx : st.wait[i]? = some x) (hm : w.cell? ⟨1, 0, none⟩ = some (.int .i64 m)) (hb1 : 1 < b) :
    Calls Tryd.prog 51 #[.pointer (some ⟨b, 0, none⟩), .pointer (some ⟨k, 0, none⟩)] w fun e w' => e = .returned (.tuple #[]) ∧ ∃ r', LexAt w' b v u s r' ps ks (takeUpL st x) ∧ GrownS w w' (fun y => b ≤ y) := by
  obtain ⟨_, q, hq, hkb⟩ := h.wts.blk i k x hk hx
  have hql := (List.getElem?_eq_some_iff.1 hq).1
  obtain ⟨t, ht⟩ : ∃ t, st.toks[x.tok]? = some t := ⟨_, List.getElem?_eq_getElem (by rw [← h.toks.len]; exact hql)⟩
  obtain ⟨hbq, hqb⟩ := h.toks.blk x.tok q t hq ht
  by_cases hf : st.flt = 0
  · have hr := h.rdr
    rw [hf, h.zero hf] at hr
    refine (takeUp_any w b [v, u] s r 0 k q x.en x.tabs t m hr hkb hqb hm hb1).mono ?_
    rintro e w' ⟨rfl, r', hT⟩
    have hl : s.size - r = st.rest.length := by rw [← h.rest hf, List.length_drop, data_len]
    rw [hl, h.rest hf] at hT
    refine ⟨rfl, r', ?_⟩
    unfold takeUpL
    rw [if_pos hf]
    cases hc : takeL (st.rest.length + 1) x.tabs x.en st.rest [] with
    | none =>
      rw [hc] at hT
      obtain ⟨h1, h2, h3⟩ := hT
      have h3' : GrownS w w' (fun y => y = b ∨ y = q) := h3.mono (fun _ _ e => .inl e)
      have hpos : st.posOf x.tok = t.pos := by unfold LS.posOf; rw [ht]; rfl
      have e1 : (({ st with rest := [] } : LS).fail 12 (st.posOf x.tok)) = { st with rest := [], flt := 12, blm := t.pos } := by
        unfold LS.fail
        rw [if_pos hf, hpos]
      rw [e1]
      refine ⟨⟨h2, ?_, h.wts.past h.rdr.blk hqb h3', fun e => absurd (show (12 : Int) = 0 from e) (by decide), fun e => absurd (show (12 : Int) = 0 from e) (by decide)⟩, h3.mono (fun _ _ e => by omega)⟩
      exact h.toks.grownS h3 (fun y hy e => own_type h.toks.row h.rdr.blk (by decide) (by rw [← e]; exact hy.symm)) (fun p hp e => by have := (h.toks.at hp).1; omega)
    | some br =>
      rw [hc] at hT
      obtain ⟨h1, h2, h3, h4⟩ := hT
      refine ⟨⟨?_, h.toks.swap (fun t => { t with body := BA br.1 }) h.rdr.blk hq ht h3 h4, h.wts.past h.rdr.blk hqb h3, fun _ => h1, fun _ => h.zero hf⟩, h3.mono (fun _ _ e => by omega)⟩
      show Rdr w' b 53 [v, u] s r' 0 st.flt st.blm
      rw [hf, h.zero hf]
      exact h2
  · refine (takeUp_bad w b [v, u] s r 0 st.flt st.blm k q (BA x.en) x.tabs t h.rdr hf hkb hqb).mono ?_
    rintro e w' ⟨rfl, hb⟩
    have hg : GrownS w w' (fun _ => False) := grownS_of_below hb
    have e1 : takeUpL st x = st := by unfold takeUpL; rw [if_neg hf]
    rw [e1]
    exact ⟨rfl, r, ⟨h.rdr.grownS hg (fun e => e), h.toks.grownS hg (fun _ _ e => e) (fun _ _ e => e), h.wts.grownS hg (fun _ _ e => e) (fun _ _ e => e), h.rest, h.zero⟩, hg.mono (fun _ _ e => e.elim)⟩

end Go.Proofs.YtlmpdfeidjnmnaaDoor

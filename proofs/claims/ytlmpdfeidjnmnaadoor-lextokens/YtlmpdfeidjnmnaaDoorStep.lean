/-
  The lexer's whole state against the pure one; 'takeUp' on it.
-/
import Derived.Test.YtlmpdfeidjnmnaaDoorTakeUp2
namespace Go.Proofs.YtlmpdfeidjnmnaaDoor
open Go.RowKit

/-- One token is another now, by whatever way. -/
theorem Toks.swap {w w1 : World} {b : Nat} {v : Value} {ps : List Nat} {ts : List Tok} (h : Toks w (b + 1) v ps ts) {i q : Nat} {t : Tok} {L : Array Value} (g : Tok → Tok) (hL : Blk w b 53 L) (hp : ps[i]? = some q) (ht : ts[i]? = some t) (hg : GrownS w w1 (fun x => x = b ∨ x = q)) (hb : Blk w1 q 37 (g t).cells) : Toks w1 (b + 1) v ps (ts.modify i g) := by
  have hq := (h.blk i q t hp ht).2
  refine ⟨own_grownS h.row hg ?_, by rw [List.length_modify]; exact h.len, ?_, h.inc⟩
  · rintro k hk (rfl | rfl)
    · exact own_type h.row hL (by decide) hk.symm
    · exact own_type h.row hq (by decide) hk.symm
  · intro j p' t' hp' ht'
    rw [List.getElem?_modify] at ht'
    by_cases hij : i = j
    · subst hij
      rw [hp] at hp'
      injection hp' with hp'
      subst hp'
      rw [ht] at ht'
      have ht' : g t = t' := by simpa using ht'
      subst ht'
      exact ⟨(h.blk i q t hp ht).1, hb⟩
    · have ht2 : ts[j]? = some t' := by simpa [hij] using ht'
      obtain ⟨h1, h2⟩ := h.blk j p' t' hp' ht2
      refine ⟨h1, h2.grownS hg ?_⟩
      rintro (e | e)
      · omega
      · exact hij (inc_ne h.inc (by rw [← e] at hp; exact hp) hp')

/-- The lexer in block b is as far as st: its tokens lie in the blocks ps, the awaited texts in ks. -/
structure LexAt (w : World) (b : Nat) (v u : Value) (s : ByteArray) (r : Nat) (ps ks : List Nat) (st : LS) : Prop where
  rdr : Rdr w b 53 [v, u] s r 0 st.flt st.blm
  toks : Toks w (b + 1) v ps st.toks
  wts : Wts w (b + 1) u ks ps st.wait
  rest : st.flt = 0 → s.data.toList.drop r = st.rest
  zero : st.flt = 0 → st.blm = 0

/-- What neither a token nor the lexer is stays awaited. -/
theorem Wts.past {w w1 : World} {b q : Nat} {u : Value} {ks ps : List Nat} {ws : List Wt} {L C : Array Value} (h : Wts w (b + 1) u ks ps ws) (hL : Blk w b 53 L) (hq : Blk w q 37 C) (hg : GrownS w w1 (fun x => x = b ∨ x = q)) : Wts w1 (b + 1) u ks ps ws := by
  refine h.grownS hg ?_ ?_
  · rintro k hk (rfl | rfl)
    · exact own_type h.row hL (by decide) hk.symm
    · exact own_type h.row hq (by decide) hk.symm
  · intro k hk
    obtain ⟨i, hi, rfl⟩ := List.getElem_of_mem hk
    have hi2 : i < ws.length := by rw [← h.len]; exact hi
    obtain ⟨h3, q', _, h5⟩ := h.blk i ks[i] ws[i] (List.getElem?_eq_getElem hi) (List.getElem?_eq_getElem hi2)
    rintro (e | e)
    · omega
    · rw [e] at h5
      have := h5.symm.trans hq
      simp at this

end Go.Proofs.YtlmpdfeidjnmnaaDoor

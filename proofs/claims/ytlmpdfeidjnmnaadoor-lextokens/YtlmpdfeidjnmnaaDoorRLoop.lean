/-
  The document's loop over a text: what is passed over is passed over step by step; it comes to what the pure lexer comes to.
-/
import Derived.Test.YtlmpdfeidjnmnaaDoorAgain
namespace Go.Proofs.YtlmpdfeidjnmnaaDoor
open Go.RowKit

/-- One step of the document's loop. -/
def stepR (n : Nat) (st : LS) : LS :=
  match st.rest with
  | [] => st
  | c :: R => if blkB (c.toNat : Int) then { st with rest := R } else if c = 92 ∧ R.head? = some 10 then { st with rest := R.drop 1 } else if c = 35 then { st with rest := R.dropWhile (fun x => x != 10) } else tokenL n st
def loopR (n : Nat) : Nat → LS → LS
  | 0, st => st
  | f + 1, st => if st.flt = 0 then (if st.rest = [] then st else loopR n f (stepR n st)) else st
theorem loopR_step {n G : Nat} {st : LS} (h : st.flt = 0) (hr : st.rest ≠ []) : loopR n (G + 1) st = loopR n G (stepR n st) := by rw [loopR, if_pos h, if_neg hr]
theorem loopR_end {n G : Nat} {st : LS} (hr : st.rest = []) : loopR n G st = st := by
  cases G with
  | zero => rfl
  | succ G =>
    rw [loopR]
    by_cases hf : st.flt = 0
    · rw [if_pos hf, if_pos hr]
    · rw [if_neg hf]
theorem loopR_bad {n G : Nat} {st : LS} (h : st.flt ≠ 0) : loopR n G st = st := by
  cases G with
  | zero => rfl
  | succ G => rw [loopR, if_neg h]
/-- What is passed over, step by step. -/
theorem loopR_skip (n : Nat) : ∀ (k : Nat) (st : LS), st.rest.length < k → st.flt = 0 → ∃ j, j + (skL k st.rest).length ≤ st.rest.length ∧ ∀ G, loopR n (G + j) st = loopR n G { st with rest := skL k st.rest }
  | 0, st, h, _ => by omega
  | k + 1, st, h, hf => by
    cases hr : st.rest with
    | nil =>
      refine ⟨0, by rw [skL_nil]; exact Nat.le_refl _, fun G => ?_⟩
      rw [skL_nil, ← hr]
      rfl
    | cons c R =>
      rw [hr, List.length_cons] at h
      rw [skL_cons]
      by_cases h1 : blkB (c.toNat : Int) = true
      · rw [if_pos h1]
        obtain ⟨j, hj, hG⟩ := loopR_skip n k { st with rest := R } (by show R.length < k; omega) hf
        refine ⟨j + 1, by rw [List.length_cons]; have hj : j + (skL k R).length ≤ R.length := hj; omega, fun G => ?_⟩
        have := hG G
        rw [← Nat.add_assoc, loopR_step hf (by rw [hr]; simp)]
        have e : stepR n st = { st with rest := R } := by unfold stepR; rw [hr]; simp only; rw [if_pos h1]
        rw [e]
        exact this
      · rw [if_neg h1]
        by_cases h2 : c = 92 ∧ R.head? = some 10
        · rw [if_pos h2]
          obtain ⟨j, hj, hG⟩ := loopR_skip n k { st with rest := R.drop 1 } (by show (R.drop 1).length < k; rw [List.length_drop]; omega) hf
          refine ⟨j + 1, by rw [List.length_cons]; have hj : j + (skL k (R.drop 1)).length ≤ (R.drop 1).length := hj; rw [List.length_drop] at hj; omega, fun G => ?_⟩
          have := hG G
          rw [← Nat.add_assoc, loopR_step hf (by rw [hr]; simp)]
          have e : stepR n st = { st with rest := R.drop 1 } := by unfold stepR; rw [hr]; simp only; rw [if_neg h1, if_pos h2]
          rw [e]
          exact this
        · rw [if_neg h2]
          by_cases h3 : c = 35
          · rw [if_pos h3]
            have hd := dropWhile_len (fun x => x != 10) R
            obtain ⟨j, hj, hG⟩ := loopR_skip n k { st with rest := R.dropWhile (fun x => x != 10) } (by show (R.dropWhile (fun x => x != 10)).length < k; omega) hf
            refine ⟨j + 1, by rw [List.length_cons]; have hj : j + (skL k (R.dropWhile (fun x => x != 10))).length ≤ (R.dropWhile (fun x => x != 10)).length := hj; omega, fun G => ?_⟩
            have := hG G
            rw [← Nat.add_assoc, loopR_step hf (by rw [hr]; simp)]
            have e : stepR n st = { st with rest := R.dropWhile (fun x => x != 10) } := by unfold stepR; rw [hr]; simp only; rw [if_neg h1, if_neg h2, if_pos h3]
            rw [e]
            exact this
          · rw [if_neg h3]
            refine ⟨0, by simp, fun G => ?_⟩
            rw [← hr]
            rfl
theorem stepR_token {n : Nat} {st : LS} {c : UInt8} {R : List UInt8} (hr : st.rest = c :: R) (h1 : blkB (c.toNat : Int) = false) (h2 : ¬ (c = 92 ∧ R.head? = some 10)) (h3 : c ≠ 35) : stepR n st = tokenL n st := by
  unfold stepR
  rw [hr]
  simp only
  rw [if_neg (by rw [h1]; decide), if_neg h2, if_neg h3]
theorem loopR_eq (n : Nat) : ∀ (F G : Nat) (st : LS), Few n st → st.flt = 0 → st.rest.length + 1 ≤ F → st.rest.length + 1 ≤ G → loopR n G st = loopL n F st
  | 0, G, st, _, _, hF, _ => by omega
  | F + 1, G, st, hw, hf, hF, hG => by
    obtain ⟨j, hj, hs⟩ := loopR_skip n (st.rest.length + 1) st (Nat.lt_succ_self _) hf
    have e : skipped st = { st with rest := skL (st.rest.length + 1) st.rest } := by unfold skipped; rw [if_pos hf]
    rw [loopL_fin, e]
    obtain ⟨G', hG'⟩ : ∃ g, G = g + j := ⟨G - j, by omega⟩
    rw [hG', hs G']
    have hfw := skipped_few hw
    rw [e] at hfw
    unfold finL
    rw [if_pos hf]
    cases hr : skL (st.rest.length + 1) st.rest with
    | nil => rw [if_pos rfl, loopR_end rfl]
    | cons c R =>
      rw [if_neg (by simp)]
      obtain ⟨h1, h3, h2⟩ := skL_head _ _ (Nat.lt_succ_self _) c R hr
      rw [hr] at hj hfw
      rw [List.length_cons] at hj
      obtain ⟨G'', rfl⟩ : ∃ g, G' = g + 1 := ⟨G' - 1, by omega⟩
      rw [loopR_step (st := { st with rest := c :: R }) hf (by simp), stepR_token (st := { st with rest := c :: R }) rfl h1 h2 h3]
      obtain ⟨t1, t2⟩ := tokenL_few (st := { st with rest := c :: R }) hfw hf rfl h1
      by_cases hft : (tokenL n { st with rest := c :: R }).flt = 0
      · have hlt : (tokenL n { st with rest := c :: R }).rest.length < R.length + 1 := t2 hft
        exact loopR_eq n F G'' _ t1 hft (by omega) (by omega)
      · rw [loopR_bad hft, loopL_bad n hft]

/-- Operators with a text in place are operators; what is awaited belongs to one. -/
structure KInv (st : LS) : Prop where
  kind : ∀ u ∈ kts st.toks, (u.2 = BA [60, 60] ∨ u.2 = BA [60, 60, 45]) → u.1 = 2
  tabs : ∀ x ∈ st.wait, ∃ u, (kts st.toks)[x.tok]? = some u ∧ ((u.2 = BA [60, 60] ∧ x.tabs = false) ∨ (u.2 = BA [60, 60, 45] ∧ x.tabs = true))
theorem KInv.of {st st' : LS} (h : KInv st) (hk : kts st'.toks = kts st.toks) (hw : ∀ x ∈ st'.wait, x ∈ st.wait) : KInv st' :=
  ⟨fun u hu => h.kind u (by rw [← hk]; exact hu), fun x hx => by rw [hk]; exact h.tabs x (hw x hx)⟩
theorem KInv.more {st st' : LS} (h : KInv st) {u : Int × ByteArray} (hu : (u.2 = BA [60, 60] ∨ u.2 = BA [60, 60, 45]) → u.1 = 2) (hk : kts st'.toks = kts st.toks ++ [u]) (hw : ∀ x ∈ st'.wait, x ∈ st.wait) : KInv st' := by
  refine ⟨fun v hv => ?_, fun x hx => ?_⟩
  · rw [hk] at hv
    rcases List.mem_append.1 hv with hv | hv
    · exact h.kind v hv
    · simp at hv; rw [hv]; exact hu
  · obtain ⟨v, h1, h2⟩ := h.tabs x (hw x hx)
    refine ⟨v, ?_, h2⟩
    rw [hk, List.getElem?_append_left (List.getElem?_eq_some_iff.1 h1).1]
    exact h1
theorem KInv.await {st : LS} (h : KInv st) (word : List UInt8) : KInv (awaitL st word) := by
  have hk := awaitL_kts st word
  unfold awaitL at hk ⊢
  cases hg : st.toks.getLast? with
  | none => rw [hg] at hk; exact h
  | some t =>
    rw [hg] at hk
    simp only at hk ⊢
    by_cases hc : t.text = BA [60, 60] ∨ t.text = BA [60, 60, 45]
    · rw [if_pos hc] at hk ⊢
      refine ⟨fun u hu => h.kind u (by rw [← hk]; exact hu), fun x hx => ?_⟩
      rw [hk]
      have hx : x ∈ st.wait ++ [_] := hx
      rcases List.mem_append.1 hx with hx | hx
      · exact h.tabs x hx
      · simp at hx
        rw [hx]
        refine ⟨(t.kind, t.text), ?_, ?_⟩
        · unfold kts
          rw [List.getElem?_map, ← List.getLast?_eq_getElem?, hg]
          rfl
        · rcases hc with hc | hc
          · exact .inl ⟨hc, by show (t.text == BA [60, 60, 45]) = false; rw [hc]; decide⟩
          · exact .inr ⟨hc, by show (t.text == BA [60, 60, 45]) = true; rw [hc]; decide⟩
    · rw [if_neg hc]
      exact h
theorem foldl_mem (ws : List Wt) (st : LS) : ∀ x ∈ (ws.foldl takeUpL st).wait, x ∈ st.wait := fun x hx => by rw [foldl_wait] at hx; exact hx
theorem KInv.token {n : Nat} {st : LS} {c : UInt8} {R : List UInt8} (h : KInv st) (hr : st.rest = c :: R) (hb : blkB (c.toNat : Int) = false) : KInv (tokenL n st) := by
  unfold tokenL
  rw [hr]
  simp only
  split
  · unfold newlineL
    simp only
    have h1 : KInv (st.wait.foldl takeUpL { st with rest := R }) := h.of (foldl_kts _ _) (foldl_mem _ _)
    split
    · refine KInv.more (u := (3, BA [10])) h1 (fun e => absurd e (by decide)) ?_ (fun x hx => by cases hx)
      rw [kts_add]
    · exact h1
  · next hc =>
    split
    · next ho =>
      have hm := opL_meta ho hb hc
      unfold wordTok
      rw [hr]
      simp only [List.length_cons]
      cases hw : wordL (R.length + 1 + 1) (c :: R) with
      | err e m => exact h.of rfl (fun x hx => hx)
      | ok r =>
        simp only
        have hlt := wordL_lt hw hm
        obtain ⟨word, hword⟩ := wordL_suf _ hw
        have hlen := congrArg List.length hword
        rw [List.length_append, List.length_cons] at hlen
        have hwt : (c :: R).take (R.length + 1 - r.length) = word := by
          rw [hword, show R.length + 1 - r.length = word.length by omega, List.take_left]
        rw [hwt]
        have hne : ∀ kind : Int, ((kind, BA word).2 = BA [60, 60] ∨ (kind, BA word).2 = BA [60, 60, 45]) → (kind, BA word).1 = 2 := by
          intro kind e
          exfalso
          have h60 : c = 60 := by
            cases word with
            | nil => simp at hlen; omega
            | cons d w' =>
              injection hword with e1 e2
              rcases e with e | e
              · have e := BA_inj e; injection e with e3 e4; rw [e1, e3]
              · have e := BA_inj e; injection e with e3 e4; rw [e1, e3]
          rw [h60] at hm
          exact absurd hm (by decide)
        split
        · refine KInv.more (u := (4, BA word)) h (hne 4) ?_ (fun x hx => hx)
          rw [kts_add]
        · have h1 : KInv { st with rest := r } := h.of rfl (fun x hx => hx)
          refine KInv.more (u := (1, BA word)) (h1.await word) (hne 1) ?_ (fun x hx => hx)
          rw [kts_add]
    · refine KInv.more (u := (2, BA (opL (c :: R)))) h (fun _ => rfl) ?_ (fun x hx => hx)
      rw [kts_add]

end Go.Proofs.YtlmpdfeidjnmnaaDoor

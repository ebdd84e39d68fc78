/-
  What the pure lexer takes: a byte at least a token; how many tokens there are.
-/
import Derived.Test.YtlmpdfeidjnmnaaDoorLoc
import Derived.Test.YtlmpdfeidjnmnaaDoorNewl
namespace Go.Proofs.YtlmpdfeidjnmnaaDoor
open Go.RowKit

theorem OpsAt.of {w w1 : World} (h : OpsAt w) (hb : w1.heap[0]? = w.heap[0]?) : OpsAt w1 := by
  have e : ∀ i, w1.cell? ⟨0, i, none⟩ = w.cell? ⟨0, i, none⟩ := fun i => World.cell?_of_block hb
  constructor <;> rw [e]
  · exact h.at0
  · exact h.at1
  · exact h.at2
  · exact h.at3
  · exact h.at4
  · exact h.at5
  · exact h.at6
  · exact h.at7
  · exact h.at8
  · exact h.at9
  · exact h.at10
  · exact h.at11
  · exact h.at12
  · exact h.at13
  · exact h.at14
  · exact h.at15
theorem OpsAt.grown {w w1 : World} (h : OpsAt w) (hg : w.grownBy w1 none) : OpsAt w1 := by
  refine h.of (hg.block 0 ?_ (by simp))
  rcases Nat.lt_or_ge 0 w.heap.size with h' | h'
  · exact h'
  · have := h.at0
    have e : w.heap[0]? = none := Array.getElem?_eq_none h'
    unfold World.cell? at this
    rw [e] at this
    cases this

theorem opL_cases (l : List UInt8) : opL l = [] ∨ (opL l ∈ opsT ∧ Lib.hasPrefix l (opL l) = true) := by
  unfold opL opFrom
  rw [List.drop_zero]
  cases h : opsT.find? (fun o => Lib.hasPrefix l o) with
  | none => exact .inl rfl
  | some o => exact .inr ⟨List.mem_of_find?_eq_some h, List.find?_some h⟩
theorem opL_len (l : List UInt8) : (opL l).length ≤ 3 := by
  rcases opL_cases l with h | ⟨h, _⟩
  · rw [h]; decide
  · exact (by decide : ∀ o ∈ opsT, o.length ≤ 3) _ h
theorem opL_pre (l : List UInt8) : opL l <+: l := by
  rcases opL_cases l with h | ⟨_, h⟩
  · rw [h]; exact List.nil_prefix
  · exact List.isPrefixOf_iff_prefix.1 h
/-- A byte that isn't Meta but by being an operator's. -/
theorem opL_meta {c : UInt8} {r : List UInt8} (h : opL (c :: r) = []) (hb : blkB (c.toNat : Int) = false) (hn : c ≠ 10) : metB (c.toNat : Int) = false := by
  have hno : ∀ o ∈ opsT, Lib.hasPrefix (c :: r) o = false := by
    intro o ho
    unfold opL opFrom at h
    rw [List.drop_zero] at h
    cases hf : opsT.find? (fun o => Lib.hasPrefix (c :: r) o) with
    | none => simpa using List.find?_eq_none.1 hf o ho
    | some x =>
      rw [hf] at h
      have hx : x ∈ opsT := List.mem_of_find?_eq_some hf
      have hx0 : x = [] := h
      exact absurd hx0 ((by decide : ∀ o ∈ opsT, o ≠ []) x hx)
  have one : ∀ x : UInt8, [x] ∈ opsT → c ≠ x := by
    intro x hx e
    have := hno [x] hx
    rw [hasP_one, e] at this
    simp at this
  have ne : ∀ x : UInt8, c ≠ x → ((c.toNat : Int) == (x.toNat : Int)) = false := by
    intro x hx
    rw [beq_eq_false_iff_ne]
    intro e
    exact hx (UInt8.toNat_inj.1 (by omega))
  unfold blkB at hb
  unfold metB
  rw [hb, show ((c.toNat : Int) == 10) = false from ne 10 hn, show ((c.toNat : Int) == 124) = false from ne 124 (one 124 (by decide)), show ((c.toNat : Int) == 38) = false from ne 38 (one 38 (by decide)), show ((c.toNat : Int) == 59) = false from ne 59 (one 59 (by decide)), show ((c.toNat : Int) == 60) = false from ne 60 (one 60 (by decide)), show ((c.toNat : Int) == 62) = false from ne 62 (one 62 (by decide)), show ((c.toNat : Int) == 40) = false from ne 40 (one 40 (by decide)), show ((c.toNat : Int) == 41) = false from ne 41 (one 41 (by decide))]
  rfl

theorem skL_len : ∀ (f : Nat) (l : List UInt8), (skL f l).length ≤ l.length
  | 0, l => by rw [skL]; exact Nat.le_refl _
  | f + 1, [] => by rw [skL_nil]; exact Nat.le_refl _
  | f + 1, c :: r => by
    rw [skL_cons]
    split
    · have := skL_len f r; simp; omega
    · split
      · have := skL_len f (r.drop 1); simp at this ⊢; omega
      · split
        · have := skL_len f (r.dropWhile (fun x => x != 10))
          have := dropWhile_len (fun x => x != 10) r
          simp; omega
        · exact Nat.le_refl _
/-- What is left behind what is passed over begins with no Blank. -/
theorem skL_head : ∀ (f : Nat) (l : List UInt8), l.length < f → ∀ c r, skL f l = c :: r → blkB (c.toNat : Int) = false ∧ c ≠ 35 ∧ ¬ (c = 92 ∧ r.head? = some 10)
  | 0, l, hf => by omega
  | f + 1, [], hf => by intro c r h; rw [skL_nil] at h; cases h
  | f + 1, a :: l, hf => by
    intro c r h
    simp at hf
    rw [skL_cons] at h
    split at h
    · exact skL_head f l (by omega) c r h
    · next hb =>
      split at h
      · exact skL_head f (l.drop 1) (by simp; omega) c r h
      · next hp =>
        split at h
        · exact skL_head f _ (by have := dropWhile_len (fun x => x != 10) l; omega) c r h
        · next h35 =>
          injection h with h1 h2
          subst h1 h2
          exact ⟨by simpa using hb, h35, hp⟩

theorem wordL_lt {f : Nat} {c : UInt8} {l r : List UInt8} (h : wordL (f + 1) (c :: l) = .ok r) (hm : metB (c.toNat : Int) = false) : r.length ≤ l.length := by
  rw [wordL_cons, if_neg (by rw [hm]; decide)] at h
  split at h
  · cases h
  · next l' hl =>
    have h1 := thg_lt hl
    obtain ⟨u, hu⟩ := wordL_suf f h
    have h2 := congrArg List.length hu
    rw [List.length_append] at h2
    omega

theorem takeL_rest : ∀ (f : Nat) (tabs : Bool) (en l acc : List UInt8) (b r : List UInt8), takeL f tabs en l acc = some (b, r) → r.length ≤ l.length
  | 0, _, _, _, _, _, _, h => by cases h
  | _ + 1, _, _, [], _, _, _, h => by cases h
  | f + 1, tabs, en, c :: l, acc, b, r, h => by
    have hd : ((List.dropWhile (fun x => x != 10) (c :: l)).drop 1).length ≤ (c :: l).length := by
      have := dropWhile_len (fun x => x != 10) (c :: l)
      rw [List.length_drop]
      omega
    rw [takeL_hit (L := if tabs then Lib.trimLeftB ((c :: l).takeWhile (fun x => x != 10)) 9 else (c :: l).takeWhile (fun x => x != 10)) (by simp) rfl] at h
    generalize (if tabs then Lib.trimLeftB ((c :: l).takeWhile (fun x => x != 10)) 9 else (c :: l).takeWhile (fun x => x != 10)) = L at h
    by_cases he : L = en
    · rw [if_pos he] at h
      injection h with h
      injection h with h1 h2
      subst h2
      exact hd
    · rw [if_neg he] at h
      exact Nat.le_trans (takeL_rest f tabs en _ _ b r h) hd
theorem takeUpL_rest (st : LS) (x : Wt) : (takeUpL st x).rest.length ≤ st.rest.length := by
  unfold takeUpL
  split
  · split
    · next body rest h => exact takeL_rest _ _ _ _ _ _ _ h
    · unfold LS.fail; split <;> simp
  · exact Nat.le_refl _
theorem foldl_rest (l : List Wt) : ∀ st : LS, (l.foldl takeUpL st).rest.length ≤ st.rest.length := by
  induction l with
  | nil => intro st; exact Nat.le_refl _
  | cons x l ih => intro st; rw [List.foldl_cons]; exact Nat.le_trans (ih _) (takeUpL_rest st x)

theorem awaitL_few (st : LS) (word : List UInt8) : (awaitL st word).rest = st.rest ∧ (awaitL st word).toks.length = st.toks.length ∧ (awaitL st word).wait.length ≤ st.wait.length + 1 := by
  unfold awaitL
  split
  · exact ⟨rfl, rfl, by omega⟩
  · split
    · refine ⟨rfl, List.length_modify _ _ _, ?_⟩
      show (st.wait ++ [_]).length ≤ _
      rw [List.length_append]
      exact Nat.le_refl _
    · exact ⟨rfl, rfl, by omega⟩
/-- What is wrong with a thing has a number. -/
theorem err_all : ∀ f : Nat, (∀ l wh d e b, thg f l wh d = .err e b → e ≠ 0) ∧ (∀ l fr c wh d e b, cls f l fr c wh d = .err e b → e ≠ 0) ∧ (∀ l fr c wh d e b, lop f l fr c wh d = .err e b → e ≠ 0)
  | 0 => ⟨fun l wh d e b h => (by rw [thg] at h; cases h), fun l fr c wh d e b h => (by rw [cls] at h; cases h), fun l fr c wh d e b h => (by rw [lop] at h; cases h)⟩
  | f + 1 => by
    obtain ⟨iT, iC, iL⟩ := err_all f
    refine ⟨fun l wh d e b h => ?_, fun l fr c wh d e b h => ?_, fun l fr c wh d e b h => ?_⟩
    · cases l with
      | nil => rw [thg] at h; cases h
      | cons x l =>
        rw [thg_succ] at h
        split at h
        · cases h
        split at h
        · split at h
          · cases h
          · exact iC _ _ _ _ _ _ _ h
        split at h
        · split at h
          · cases h
          · split at h
            · injection h with h1 h2; rw [← h1]; decide
            · cases h
        split at h
        · split at h
          · exact iC _ _ _ _ _ _ _ h
          · split at h
            · exact iC _ _ _ _ _ _ _ h
            · cases h
        split at h
        · split at h
          · exact iC _ _ _ _ _ _ _ h
          · cases h
        split at h
        · injection h with h1 h2; rw [← h1]; decide
        · cases h
    · rw [cls_succ] at h
      split at h
      · injection h with h1 h2; rw [← h1]; decide
      · exact iL _ _ _ _ _ _ _ h
    · cases l with
      | nil => rw [lop_nil] at h; injection h with h1 h2; rw [← h1]; decide
      | cons x l =>
        rw [lop_succ] at h
        split at h
        · cases h
        · split at h
          · next x' b' hx => injection h with h1 h2; rw [← h1]; exact iT _ _ _ _ _ hx
          · exact iL _ _ _ _ _ _ _ h
theorem wordL_err : ∀ (f : Nat) {l b : List UInt8} {e : Int}, wordL f l = .err e b → e ≠ 0
  | 0, l, b, e, h => by cases h
  | f + 1, [], b, e, h => by rw [wordL_nil] at h; cases h
  | f + 1, c :: l, b, e, h => by
    rw [wordL_cons] at h
    split at h
    · cases h
    · split at h
      · next e' m' hx => injection h with h1 h2; rw [← h1]; exact (err_all _).1 _ _ _ _ _ hx
      · exact wordL_err f h

/-- How much there is, of a text of n bytes. -/
structure Few (n : Nat) (st : LS) : Prop where
  wait : st.wait.length ≤ st.toks.length
  rest : st.flt = 0 → st.toks.length + st.rest.length ≤ n
  toks : st.toks.length ≤ n
theorem tokenL_few {n : Nat} {st : LS} {c : UInt8} {R : List UInt8} (h : Few n st) (hf : st.flt = 0) (hr : st.rest = c :: R) (hb : blkB (c.toNat : Int) = false) : Few n (tokenL n st) ∧ ((tokenL n st).flt = 0 → (tokenL n st).rest.length < st.rest.length) := by
  have h1 := h.rest hf
  have h2 := h.wait
  rw [hr, List.length_cons] at h1
  unfold tokenL
  rw [hr]
  simp only
  split
  · unfold newlineL
    simp only
    have e1 := foldl_len st.wait { st with rest := R }
    have e2 := foldl_rest st.wait { st with rest := R }
    have e3 := foldl_wait st.wait { st with rest := R }
    have e1' : (st.wait.foldl takeUpL { st with rest := R }).toks.length = st.toks.length := e1
    have e2' : (st.wait.foldl takeUpL { st with rest := R }).rest.length ≤ R.length := e2
    have e3' : (st.wait.foldl takeUpL { st with rest := R }).wait = st.wait := e3
    split
    · refine ⟨⟨by show 0 ≤ _; omega, fun _ => ?_, ?_⟩, fun _ => ?_⟩
      · show ((st.wait.foldl takeUpL { st with rest := R }).toks ++ [_]).length + _ ≤ n
        rw [List.length_append, e1']
        show st.toks.length + 1 + (st.wait.foldl takeUpL { st with rest := R }).rest.length ≤ n
        omega
      · show ((st.wait.foldl takeUpL { st with rest := R }).toks ++ [_]).length ≤ n
        rw [List.length_append, e1']
        show st.toks.length + 1 ≤ n
        omega
      · show (st.wait.foldl takeUpL { st with rest := R }).rest.length < _
        rw [List.length_cons]
        omega
    · next hne => exact ⟨⟨by rw [e3', e1']; exact h2, fun e => absurd e hne, by rw [e1']; omega⟩, fun e => absurd e hne⟩
  · next hc =>
    split
    · next ho =>
      have hm := opL_meta ho hb hc
      unfold wordTok
      rw [hr]
      simp only [List.length_cons]
      cases hw : wordL (R.length + 1 + 1) (c :: R) with
      | err e m =>
        simp only
        refine ⟨⟨h2, fun _ => ?_, h.toks⟩, fun e0 => ?_⟩
        · show st.toks.length + (c :: R).length ≤ n
          rw [List.length_cons]; exact h1
        · exact absurd e0 (wordL_err _ hw)
      | ok r =>
        simp only
        have hlt := wordL_lt hw hm
        split
        · refine ⟨⟨?_, fun _ => ?_, ?_⟩, fun _ => ?_⟩
          · show st.wait.length ≤ (st.toks ++ [_]).length
            rw [List.length_append]; omega
          · show (st.toks ++ [_]).length + r.length ≤ n
            rw [List.length_append, List.length_singleton]; omega
          · show (st.toks ++ [_]).length ≤ n
            rw [List.length_append, List.length_singleton]; omega
          · show r.length < R.length + 1
            omega
        · have ha := awaitL_few { st with rest := r } ((c :: R).take (R.length + 1 - r.length))
          refine ⟨⟨?_, fun _ => ?_, ?_⟩, fun _ => ?_⟩
          · show (awaitL _ _).wait.length ≤ ((awaitL _ _).toks ++ [_]).length
            rw [List.length_append, List.length_singleton, ha.2.1]
            have := ha.2.2
            show _ ≤ st.toks.length + 1
            have h' : (awaitL { st with rest := r } ((c :: R).take (R.length + 1 - r.length))).wait.length ≤ st.wait.length + 1 := this
            omega
          · show ((awaitL _ _).toks ++ [_]).length + (awaitL _ _).rest.length ≤ n
            rw [List.length_append, List.length_singleton, ha.2.1, ha.1]
            show st.toks.length + 1 + r.length ≤ n
            omega
          · show ((awaitL _ _).toks ++ [_]).length ≤ n
            rw [List.length_append, List.length_singleton, ha.2.1]
            show st.toks.length + 1 ≤ n
            omega
          · show (awaitL _ _).rest.length < R.length + 1
            rw [ha.1]
            show r.length < R.length + 1
            omega
    · next ho =>
      have hp : 0 < (opL (c :: R)).length := List.length_pos_iff.2 ho
      have hq := (opL_pre (c :: R)).length_le
      rw [List.length_cons] at hq
      refine ⟨⟨?_, fun _ => ?_, ?_⟩, fun _ => ?_⟩
      · show st.wait.length ≤ (st.toks ++ [_]).length
        rw [List.length_append]; omega
      · show (st.toks ++ [_]).length + ((c :: R).drop (opL (c :: R)).length).length ≤ n
        rw [List.length_append, List.length_singleton, List.length_drop, List.length_cons]; omega
      · show (st.toks ++ [_]).length ≤ n
        rw [List.length_append, List.length_singleton]; omega
      · show ((c :: R).drop (opL (c :: R)).length).length < (c :: R).length
        rw [List.length_drop, List.length_cons]; omega

/-- The lexer's state ahead of a token: what stands ahead of it is passed over. -/
def skipped (st : LS) : LS := if st.flt = 0 then { st with rest := skL (st.rest.length + 1) st.rest } else st
/-- From a state on whose front is passed over. -/
def finL (n F : Nat) (st : LS) : LS := if st.flt = 0 then (if st.rest = [] then st else loopL n F (tokenL n st)) else st
theorem loopL_fin (n F : Nat) (st : LS) : loopL n (F + 1) st = finL n F (skipped st) := by
  unfold finL skipped
  rw [loopL]
  by_cases h : st.flt = 0
  · rw [if_pos h, if_pos h]
    simp only [h, if_true]
  · rw [if_neg h, if_neg h, if_neg h]
theorem skipped_few {n : Nat} {st : LS} (h : Few n st) : Few n (skipped st) := by
  unfold skipped
  split
  · next hf =>
    refine ⟨h.wait, fun _ => ?_, h.toks⟩
    have := h.rest hf
    have := skL_len (st.rest.length + 1) st.rest
    show st.toks.length + (skL _ _).length ≤ n
    omega
  · exact h

end Go.Proofs.YtlmpdfeidjnmnaaDoor

/-
  Tokens' texts, a blank between each two, have the same tokens again.
-/
import Derived.Test.YtlmpdfeidjnmnaaDoorHere
namespace Go.Proofs.YtlmpdfeidjnmnaaDoor
open Go.RowKit

/-- A token's kind and text. -/
abbrev KT := Int × List UInt8
/-- The texts of tokens, a blank behind each but the last, none behind an Io. -/
def joinT : List KT → List UInt8
  | [] => []
  | [t] => t.2
  | t :: u :: ts => t.2 ++ (if t.1 = 4 then joinT (u :: ts) else 32 :: joinT (u :: ts))
/-- What may stand behind a token's text: nothing, behind the last one; a blank; an operator with a less-than or greater-than sign in front, behind an Io. -/
def After (last : Bool) (t : KT) (z : List UInt8) : Prop := (last = true ∧ z = []) ∨ (last = false ∧ t.1 ≠ 4 ∧ ∃ r, z = 32 :: r) ∨ (last = false ∧ t.1 = 4 ∧ ∃ r, z = 60 :: r ∨ z = 62 :: r)
/-- A text that is lexed as a token of this kind, whatever may stand behind it; no text in place. -/
structure OneTok (last : Bool) (t : KT) : Prop where
  ne : t.2 ≠ []
  front : ∀ c r z, t.2 ++ z = c :: r → After last t z → blkB (c.toNat : Int) = false ∧ c ≠ 35 ∧ ¬ (c = 92 ∧ r.head? = some 10)
  tok : ∀ z n ts, After last t z → (∀ u ∈ ts, u.text ≠ BA [60, 60] ∧ u.text ≠ BA [60, 60, 45]) → ∃ p, tokenL n ⟨t.2 ++ z, ts, [], 0, 0⟩ = ⟨z, ts ++ [⟨t.1, BA t.2, p, ⟨#[]⟩, false⟩], [], 0, 0⟩
  no : BA t.2 ≠ BA [60, 60] ∧ BA t.2 ≠ BA [60, 60, 45]
/-- Tokens that stand in a row so: behind an Io an operator follows. -/
def Rowed : List KT → Prop
  | [] => True
  | [t] => OneTok true t
  | t :: u :: ts => OneTok false t ∧ (t.1 = 4 → ∃ r, u.2 = 60 :: r ∨ u.2 = 62 :: r) ∧ Rowed (u :: ts)

theorem joinT_after : ∀ (t : KT) (ts : List KT), Rowed (t :: ts) → ∃ z, joinT (t :: ts) = t.2 ++ z ∧ After ts.isEmpty t z ∧ OneTok ts.isEmpty t ∧ (ts = [] → z = []) ∧ (ts ≠ [] → z = joinT ts ∨ z = 32 :: joinT ts)
  | t, [], h => ⟨[], by simp [joinT], .inl ⟨rfl, rfl⟩, h, fun _ => rfl, fun h => absurd rfl h⟩
  | t, u :: ts, h => by
    obtain ⟨h1, h2, h3⟩ := h
    by_cases h4 : t.1 = 4
    · refine ⟨joinT (u :: ts), by rw [joinT, if_pos h4], .inr (.inr ⟨rfl, h4, ?_⟩), h1, fun h => by simp at h, fun _ => .inl rfl⟩
      obtain ⟨z, hz, _⟩ := joinT_after u ts h3
      obtain ⟨r, hr⟩ := h2 h4
      rw [hz]
      rcases hr with hr | hr
      · exact ⟨r ++ z, .inl (by rw [hr]; rfl)⟩
      · exact ⟨r ++ z, .inr (by rw [hr]; rfl)⟩
    · exact ⟨32 :: joinT (u :: ts), by rw [joinT, if_neg h4], .inr (.inl ⟨rfl, h4, _, rfl⟩), h1, fun h => by simp at h, fun _ => .inr rfl⟩

/-- Kinds and texts. -/
def kts (ts : List Tok) : List (Int × ByteArray) := ts.map (fun t => (t.kind, t.text))
theorem loop_again (n : Nat) : ∀ (l : List KT) (ts : List Tok) (F : Nat) (lead : Bool), Rowed l → (∀ u ∈ ts, u.text ≠ BA [60, 60] ∧ u.text ≠ BA [60, 60, 45]) → l.length + 1 ≤ F → (lead = true → l ≠ []) →
    ∃ us, loopL n F ⟨if lead then 32 :: joinT l else joinT l, ts, [], 0, 0⟩ = ⟨[], ts ++ us, [], 0, 0⟩ ∧ kts us = l.map (fun t => (t.1, BA t.2))
  | [], ts, F, lead, _, _, hF, hl => by
    have : lead = false := by
      cases lead with
      | false => rfl
      | true => exact absurd rfl (hl rfl)
    subst this
    obtain ⟨F, rfl⟩ : ∃ g, F = g + 1 := ⟨F - 1, by simp at hF; omega⟩
    refine ⟨[], ?_, rfl⟩
    rw [List.append_nil]
    rfl
  | t :: l, ts, F, lead, hr, hts, hF, _ => by
    obtain ⟨z, hz, hza, h1, hz0, hz1⟩ := joinT_after t l hr
    obtain ⟨F, rfl⟩ : ∃ g, F = g + 1 := ⟨F - 1, by simp at hF; omega⟩
    obtain ⟨c, r, hcr⟩ : ∃ c r, t.2 ++ z = c :: r := by
      cases hx : t.2 ++ z with
      | nil => exact absurd (List.append_eq_nil_iff.1 hx).1 h1.ne
      | cons c r => exact ⟨c, r, rfl⟩
    obtain ⟨f1, f2, f3⟩ := h1.front c r z hcr hza
    obtain ⟨p, hp⟩ := h1.tok z n ts hza hts
    have hstep : loopL n (F + 1) ⟨if lead then 32 :: joinT (t :: l) else joinT (t :: l), ts, [], 0, 0⟩ = loopL n F ⟨z, ts ++ [⟨t.1, BA t.2, p, ⟨#[]⟩, false⟩], [], 0, 0⟩ := by
      rw [← hp, hz, hcr]
      cases lead with
      | false => exact loop_stop f1 f2 f3
      | true => exact loop_blank f1 f2 f3
    have hts' : ∀ u ∈ ts ++ [(⟨t.1, BA t.2, p, ⟨#[]⟩, false⟩ : Tok)], u.text ≠ BA [60, 60] ∧ u.text ≠ BA [60, 60, 45] := by
      intro u hu
      rcases List.mem_append.1 hu with hu | hu
      · exact hts u hu
      · simp at hu; rw [hu]; exact h1.no
    rw [hstep]
    have hrl : Rowed l := by
      cases l with
      | nil => trivial
      | cons u l => exact hr.2.2
    simp at hF
    by_cases hl0 : l = []
    · subst hl0
      rw [hz0 rfl]
      obtain ⟨us, hu, hk⟩ := loop_again n [] (ts ++ [⟨t.1, BA t.2, p, ⟨#[]⟩, false⟩]) F false hrl hts' (by simpa using hF) (fun h => by cases h)
      refine ⟨⟨t.1, BA t.2, p, ⟨#[]⟩, false⟩ :: us, ?_, ?_⟩
      · have hu : loopL n F ⟨[], ts ++ [⟨t.1, BA t.2, p, ⟨#[]⟩, false⟩], [], 0, 0⟩ = _ := hu
        rw [hu, List.append_assoc]; rfl
      · unfold kts at hk ⊢
        rw [List.map_cons, hk]
        rfl
    · obtain ⟨b, hb⟩ : ∃ b : Bool, z = if b then 32 :: joinT l else joinT l := by
        rcases hz1 hl0 with h | h
        · exact ⟨false, h⟩
        · exact ⟨true, h⟩
      rw [hb]
      obtain ⟨us, hu, hk⟩ := loop_again n l (ts ++ [⟨t.1, BA t.2, p, ⟨#[]⟩, false⟩]) F b hrl hts' (by omega) (fun _ => hl0)
      refine ⟨⟨t.1, BA t.2, p, ⟨#[]⟩, false⟩ :: us, by rw [hu, List.append_assoc]; rfl, ?_⟩
      unfold kts at hk ⊢
      rw [List.map_cons, hk]
      rfl

theorem awaitL_other {st : LS} {word : List UInt8} (h : ∀ u ∈ st.toks, u.text ≠ BA [60, 60] ∧ u.text ≠ BA [60, 60, 45]) : awaitL st word = st := by
  unfold awaitL
  split
  · rfl
  · next t ht =>
    have h1 := h t (List.mem_of_getLast? ht)
    rw [if_neg]
    rintro (e | e)
    · exact h1.1 e
    · exact h1.2 e

/-- An operator, with nothing or a blank behind it, is itself. -/
theorem op_self (o : List UInt8) (ho : o ∈ opsT) (z : List UInt8) (hz : z = [] ∨ ∃ r, z = 32 :: r) : opL (o ++ z) = o := by
  unfold opsT at ho
  simp at ho
  rcases hz with rfl | ⟨r, rfl⟩
  · rcases ho with h | h | h | h | h | h | h | h | h | h | h | h | h | h | h | h <;> subst h <;> rfl
  · rcases ho with h | h | h | h | h | h | h | h | h | h | h | h | h | h | h | h <;> subst h <;> rfl
theorem one_op (last : Bool) (o : List UInt8) (ho : o ∈ opsT) (h1 : o ≠ [60, 60]) (h2 : o ≠ [60, 60, 45]) : OneTok last (2, o) := by
  have hne : o ≠ [] := (by decide : ∀ o ∈ opsT, o ≠ []) o ho
  have hfr : ∀ c r, o = c :: r → blkB (c.toNat : Int) = false ∧ c ≠ 35 ∧ c ≠ 92 ∧ c ≠ 10 := by
    intro c r e
    have : ∀ o ∈ opsT, ∀ c r, o = c :: r → blkB (c.toNat : Int) = false ∧ c ≠ 35 ∧ c ≠ 92 ∧ c ≠ 10 := by
      intro o ho
      unfold opsT at ho
      simp at ho
      rcases ho with h | h | h | h | h | h | h | h | h | h | h | h | h | h | h | h <;> subst h <;> (intro c r e; injection e with e1 e2; subst e1; decide)
    exact this o ho c r e
  have hz : ∀ z, After last (2, o) z → z = [] ∨ ∃ r, z = 32 :: r := by
    rintro z (⟨_, h⟩ | ⟨_, _, h⟩ | ⟨_, h, _⟩)
    · exact .inl h
    · exact .inr h
    · exact absurd (show (2 : Int) = 4 from h) (by decide)
  refine ⟨hne, fun c r z e _ => ?_, fun z n ts ha _ => ?_, fun e => h1 (BA_inj e), fun e => h2 (BA_inj e)⟩
  · cases o with
    | nil => exact absurd rfl hne
    | cons d o =>
      have e : d :: (o ++ z) = c :: r := e
      injection e with e1 e2
      obtain ⟨a1, a2, a3, _⟩ := hfr d o rfl
      rw [← e1]
      exact ⟨a1, a2, fun h => a3 h.1⟩
  · cases o with
    | nil => exact absurd rfl hne
    | cons d o =>
      obtain ⟨_, _, _, a4⟩ := hfr d o rfl
      have hop : opL (d :: (o ++ z)) = d :: o := op_self (d :: o) ho z (hz z ha)
      refine ⟨((n - ((o ++ z).length + 1) : Nat) : Int), ?_⟩
      show tokenL n ⟨d :: (o ++ z), ts, [], 0, 0⟩ = _
      rw [tok_op a4 hop hne, ← List.cons_append, List.drop_left]
      rfl
theorem one_nl (last : Bool) : OneTok last (3, [10]) := by
  refine ⟨by decide, fun c r z e _ => ?_, fun z n ts _ _ => ?_, by decide, by decide⟩
  · have e : 10 :: z = c :: r := e
    injection e with e1 e2
    rw [← e1]
    exact ⟨by decide, by decide, fun h => absurd h.1 (by decide)⟩
  · refine ⟨((n - (z.length + 1) : Nat) : Int), ?_⟩
    show tokenL n ⟨10 :: z, ts, [], 0, 0⟩ = _
    unfold tokenL
    simp only
    rw [if_pos trivial]
    rfl

/-- No operator begins with a byte that isn't Meta. -/
theorem op_none {c : UInt8} {r : List UInt8} (h : metB (c.toNat : Int) = false) : opL (c :: r) = [] := by
  rcases opL_cases (c :: r) with h0 | ⟨h1, h2⟩
  · exact h0
  · exfalso
    have hm : ∀ o ∈ opsT, ∀ d s, o = d :: s → metB (d.toNat : Int) = true := by
      intro o ho
      unfold opsT at ho
      simp at ho
      rcases ho with h | h | h | h | h | h | h | h | h | h | h | h | h | h | h | h <;> subst h <;> (intro c r e; injection e with e1 e2; subst e1; decide)
    cases ho : opL (c :: r) with
    | nil => rw [ho] at h1; exact absurd h1 (by decide)
    | cons d s =>
      have hp := opL_pre (c :: r)
      rw [ho] at hp
      obtain ⟨t, ht⟩ := hp
      injection ht with e1 e2
      have := hm _ h1 d s ho
      rw [e1, h] at this
      cases this
/-- A Word is one again, and an Io, too. -/
theorem one_word {c : UInt8} {R r word : List UInt8} {kind : Int} {last : Bool} (hm : metB (c.toNat : Int) = false) (h35 : c ≠ 35) (h92 : ¬ (c = 92 ∧ R.head? = some 10)) (hw : wordL (R.length + 1 + 1) (c :: R) = .ok r) (hcr : c :: R = word ++ r) (hwn : word ≠ []) (hlast : last = false → r ≠ []) (hk : (kind = 1) ∨ (kind = 4 ∧ digsB word = true ∧ last = false)) : OneTok last (kind, word) := by
  obtain ⟨w', hw'⟩ : ∃ w', word = c :: w' := by
    cases word with
    | nil => exact absurd rfl hwn
    | cons d w' => injection hcr with e1 e2; exact ⟨w', by rw [e1]⟩
  have hR : R = w' ++ r := by rw [hw'] at hcr; injection hcr
  have hne10 : c ≠ 10 := fun e => by rw [e] at hm; exact absurd hm (by decide)
  have hne60 : c ≠ 60 := fun e => by rw [e] at hm; exact absurd hm (by decide)
  have hbl : blkB (c.toNat : Int) = false := by
    unfold metB at hm
    unfold blkB
    simp only [Bool.or_eq_false_iff] at hm
    rw [hm.1.1.1.1.1.1.1.1.1, hm.1.1.1.1.1.1.1.1.2]
    rfl
  have hzz : ∀ z, After last (kind, word) z → Comp r z ∧ Ends z := by
    rintro z (⟨h1, h2⟩ | ⟨h1, _, x, h2⟩ | ⟨h1, _, x, h2⟩)
    · rw [h2]
      exact ⟨⟨fun _ => rfl, fun _ => by simp, fun _ => by simp⟩, .inl rfl⟩
    · rw [h2]
      exact ⟨⟨fun e => absurd e (hlast h1), fun _ => by simp, fun _ => by simp⟩, .inr ⟨32, x, rfl, by decide⟩⟩
    · rcases h2 with h2 | h2
      · rw [h2]
        exact ⟨⟨fun e => absurd e (hlast h1), fun _ => by simp, fun _ => by simp⟩, .inr ⟨60, x, rfl, by decide⟩⟩
      · rw [h2]
        exact ⟨⟨fun e => absurd e (hlast h1), fun _ => by simp, fun _ => by simp⟩, .inr ⟨62, x, rfl, by decide⟩⟩
  have hone : w' = [] → c = 92 → R = [] := by
    intro h1 h2
    rw [wordL_cons, if_neg (by rw [hm]; decide), show 3 * (R.length + 1) + 3 = (3 * (R.length + 1) + 2) + 1 from rfl, thg_succ, if_pos h2] at hw
    obtain ⟨t, ht⟩ := wordL_suf _ hw
    rw [h1, List.nil_append] at hR
    have hl := congrArg List.length ht
    rw [List.length_append, List.length_drop, hR] at hl
    rw [hR]
    exact List.eq_nil_of_length_eq_zero (by omega)
  refine ⟨hwn, fun c1 r1 z e ha => ?_, fun z n ts ha hts => ?_, fun e => ?_, fun e => ?_⟩
  · have e : word ++ z = c1 :: r1 := e
    rw [hw'] at e
    have e : c :: (w' ++ z) = c1 :: r1 := e
    injection e with e1 e2
    rw [← e1, ← e2]
    refine ⟨hbl, h35, fun h => ?_⟩
    cases w' with
    | nil =>
      have hR0 := hone rfl h.1
      have hr0 : r = [] := by rw [hR] at hR0; exact hR0
      have hz0 := ((hzz z ha).1).1 hr0
      rw [hz0] at h
      exact absurd h.2 (by simp)
    | cons d w' =>
      refine h92 ⟨h.1, ?_⟩
      rw [hR]
      exact h.2
  · obtain ⟨hc, he⟩ := hzz z ha
    have hwl : wordL ((w' ++ z).length + 1 + 1) (c :: (w' ++ z)) = .ok z := by
      have := wordL_loc (R.length + 1 + 1) ((w' ++ z).length + 1 + 1) (t := word) (r := r) (z := z) (by rw [← hcr]; exact hw) (by rw [← hcr, List.length_cons]; omega) (by rw [hw', List.cons_append, List.length_cons]; omega) hc he
      rw [hw'] at this
      exact this
    have htk : (c :: (w' ++ z)).take ((w' ++ z).length + 1 - z.length) = word := by
      rw [hw', show (w' ++ z).length + 1 - z.length = (c :: w').length by rw [List.length_append, List.length_cons]; omega, ← List.cons_append, List.take_left]
    have hg : word ++ z = c :: (w' ++ z) := by rw [hw']; rfl
    show ∃ p, tokenL n ⟨word ++ z, ts, [], 0, 0⟩ = _
    rw [hg]
    rcases hk with rfl | ⟨rfl, hd, hl0⟩
    · have hh : (z.head? == some 60 || z.head? == some 62) = false := by
        rcases ha with ⟨_, h2⟩ | ⟨_, _, x, h2⟩ | ⟨_, h2, _⟩
        · rw [h2]; rfl
        · rw [h2]; rfl
        · exact absurd (show (1 : Int) = 4 from h2) (by decide)
      refine ⟨((n - ((w' ++ z).length + 1) : Nat) : Int), ?_⟩
      rw [tok_word hne10 (op_none hm) hwl htk (by rw [hh, Bool.and_false]), awaitL_other hts]
      rfl
    · have hh : (z.head? == some 60 || z.head? == some 62) = true := by
        rcases ha with ⟨h1, _⟩ | ⟨_, h2, _⟩ | ⟨_, _, x, h2⟩
        · rw [hl0] at h1; cases h1
        · exact absurd rfl h2
        · rcases h2 with h2 | h2 <;> (rw [h2]; rfl)
      refine ⟨((n - ((w' ++ z).length + 1) : Nat) : Int), ?_⟩
      rw [tok_io hne10 (op_none hm) hwl htk (by rw [hh, hd]; rfl)]
      rfl
  · have e := BA_inj e
    rw [hw'] at e
    injection e with e1 e2
    exact hne60 e1
  · have e := BA_inj e
    rw [hw'] at e
    injection e with e1 e2
    exact hne60 e1

/-- Kinds and texts stay; one is found at most. -/
theorem kts_modify (ts : List Tok) (i : Nat) (g : Tok → Tok) (hg : ∀ t, (g t).kind = t.kind ∧ (g t).text = t.text) : kts (ts.modify i g) = kts ts := by
  unfold kts
  apply List.ext_getElem?
  intro j
  rw [List.getElem?_map, List.getElem?_map, List.getElem?_modify]
  by_cases h : i = j
  · subst h
    cases ts[i]? with
    | none => rfl
    | some t => simp [(hg t).1, (hg t).2]
  · cases ts[j]? with
    | none => rfl
    | some t => simp [h]
theorem takeUpL_kts (st : LS) (x : Wt) : kts (takeUpL st x).toks = kts st.toks := by
  unfold takeUpL
  split
  · split
    · exact kts_modify _ _ _ (fun t => ⟨rfl, rfl⟩)
    · unfold LS.fail; split <;> rfl
  · rfl
theorem foldl_kts (ws : List Wt) : ∀ st : LS, kts (ws.foldl takeUpL st).toks = kts st.toks := by
  induction ws with
  | nil => intro st; rfl
  | cons x ws ih => intro st; rw [List.foldl_cons, ih, takeUpL_kts]
theorem awaitL_kts (st : LS) (word : List UInt8) : kts (awaitL st word).toks = kts st.toks := by
  unfold awaitL
  split
  · rfl
  · split
    · exact kts_modify _ _ _ (fun t => ⟨rfl, rfl⟩)
    · rfl
theorem add_kts (st : LS) (kind pos : Int) (text : List UInt8) : kts st.toks <+: kts (st.add kind text pos).toks := by
  refine ⟨[(kind, BA text)], ?_⟩
  unfold kts LS.add
  rw [List.map_append]
  rfl
theorem tokenL_kts (n : Nat) (st : LS) : kts st.toks <+: kts (tokenL n st).toks := by
  unfold tokenL
  split
  · exact List.prefix_refl _
  · next c r _ =>
    simp only
    split
    · unfold newlineL
      simp only
      have h1 := foldl_kts st.wait { st with rest := r }
      split
      · have := add_kts { (st.wait.foldl takeUpL { st with rest := r }) with wait := [] } 3 ((n - (r.length + 1) : Nat) : Int) [10]
        rw [show kts ({ (st.wait.foldl takeUpL { st with rest := r }) with wait := [] } : LS).toks = kts st.toks from h1] at this
        exact this
      · rw [h1]; exact List.prefix_refl _
    · split
      · unfold wordTok
        simp only
        split
        · exact List.prefix_refl _
        · next r' _ =>
          split
          · exact add_kts { st with rest := r' } _ _ _
          · have := add_kts (awaitL { st with rest := r' } (st.rest.take (st.rest.length - r'.length))) 1 ((n - st.rest.length : Nat) : Int) (st.rest.take (st.rest.length - r'.length))
            rw [awaitL_kts] at this
            exact this
      · exact add_kts { st with rest := _ } _ _ _
theorem loopL_kts (n : Nat) : ∀ (F : Nat) (st : LS), kts st.toks <+: kts (loopL n F st).toks
  | 0, st => List.prefix_refl _
  | F + 1, st => by
    rw [loopL]
    split
    · simp only
      split
      · exact List.prefix_refl _
      · exact (tokenL_kts n { st with rest := skL (st.rest.length + 1) st.rest }).trans (loopL_kts n F _)
    · exact List.prefix_refl _
theorem loopL_bad (n : Nat) {F : Nat} {st : LS} (h : st.flt ≠ 0) : loopL n F st = st := by
  cases F with
  | zero => rfl
  | succ F => rw [loopL, if_neg h]

/-- A list of kinds and texts without a text in place. -/
def NoHere (l : List (Int × ByteArray)) : Prop := ∀ u ∈ l, u.1 = 2 → u.2 ≠ BA [60, 60] ∧ u.2 ≠ BA [60, 60, 45]
theorem NoHere.pre {l m : List (Int × ByteArray)} (h : NoHere m) (hp : l <+: m) : NoHere l := fun u hu => h u (hp.subset hu)
/-- A state ahead of a token. -/
structure Ahead (st : LS) : Prop where
  flt : st.flt = 0
  wait : st.wait = []
  blm : st.blm = 0
  no : ∀ u ∈ st.toks, u.text ≠ BA [60, 60] ∧ u.text ≠ BA [60, 60, 45]
  front : ∀ c r, st.rest = c :: r → blkB (c.toNat : Int) = false ∧ c ≠ 35 ∧ ¬ (c = 92 ∧ r.head? = some 10)
def ofKT (l : List KT) : List (Int × ByteArray) := l.map (fun t => (t.1, BA t.2))
theorem kts_add (st : LS) (kind pos : Int) (text : List UInt8) : kts (st.add kind text pos).toks = kts st.toks ++ [(kind, BA text)] := by
  unfold kts LS.add
  rw [List.map_append]
  rfl
theorem skipped_stay {st : LS} {c : UInt8} {r : List UInt8} (hf : st.flt = 0) (hr : st.rest = c :: r) (h1 : blkB (c.toNat : Int) = false) (h2 : c ≠ 35) (h3 : ¬ (c = 92 ∧ r.head? = some 10)) : skipped st = st := by
  have : skL (st.rest.length + 1) st.rest = st.rest := by rw [hr]; exact sk_stop h1 h2 h3
  unfold skipped
  rw [if_pos hf, this]

theorem rowed_fin (n : Nat) : ∀ (F : Nat) (st : LS), Ahead st → st.rest.length ≤ F → (finL n F st).flt = 0 → NoHere (kts (finL n F st).toks) →
    ∃ us : List KT, kts (finL n F st).toks = kts st.toks ++ ofKT us ∧ Rowed us ∧ (finL n F st).wait = [] ∧ (∀ c r, st.rest = c :: r → ∃ t us', us = t :: us' ∧ ((c = 60 ∨ c = 62) → ∃ r', t.2 = c :: r')) ∧ (st.rest = [] → us = [])
  | F, st, h, hF, hfin, hno => by
    cases hr : st.rest with
    | nil =>
      have e : finL n F st = st := by unfold finL; rw [if_pos h.flt, if_pos hr]
      rw [e]
      exact ⟨[], by simp [ofKT], trivial, h.wait, fun c r hx => (by cases hx), fun _ => rfl⟩
    | cons c R =>
      rw [hr, List.length_cons] at hF
      obtain ⟨F, rfl⟩ : ∃ g, F = g + 1 := ⟨F - 1, by omega⟩
      obtain ⟨f1, f2, f3⟩ := h.front c R hr
      have e : finL n (F + 1) st = loopL n (F + 1) (tokenL n st) := by unfold finL; rw [if_pos h.flt, if_neg (by rw [hr]; simp)]
      rw [e] at hfin hno ⊢
      have hst : st = ⟨c :: R, st.toks, [], 0, 0⟩ := by
        cases st with
        | mk rest toks wait flt blm =>
          have h1 := h.flt; have h2 := h.wait; have h3 := h.blm
          simp only at h1 h2 h3 hr
          rw [h1, h2, h3, hr]
      have htf : (tokenL n st).flt = 0 := by
        rcases Classical.em ((tokenL n st).flt = 0) with h' | h'
        · exact h'
        · rw [loopL_bad n h'] at hfin; exact hfin
      have hpre := loopL_kts n (F + 1) (tokenL n st)
      -- one token, and on
      have main : ∀ (t : KT) (rest' : List UInt8) (p : Int), tokenL n st = ⟨rest', st.toks ++ [⟨t.1, BA t.2, p, ⟨#[]⟩, false⟩], [], 0, 0⟩ → rest'.length ≤ R.length → (BA t.2 ≠ BA [60, 60] ∧ BA t.2 ≠ BA [60, 60, 45]) → (∀ last, (last = false → rest' ≠ []) → (t.1 = 4 → last = false) → OneTok last t) → (t.1 = 4 → ∃ x, rest' = 60 :: x ∨ rest' = 62 :: x) → ((c = 60 ∨ c = 62) → ∃ r', t.2 = c :: r') →
          ∃ us : List KT, kts (loopL n (F + 1) (tokenL n st)).toks = kts st.toks ++ ofKT us ∧ Rowed us ∧ (loopL n (F + 1) (tokenL n st)).wait = [] ∧ (∀ c' r, c :: R = c' :: r → ∃ t us', us = t :: us' ∧ ((c' = 60 ∨ c' = 62) → ∃ r', t.2 = c' :: r')) ∧ (c :: R = [] → us = []) := by
        intro t rest' p ht hlen hnot hone hio hcc
        have hsk : skipped (tokenL n st) = { tokenL n st with rest := skL (rest'.length + 1) rest' } := by
          unfold skipped
          rw [if_pos htf, ht]
        have hah : Ahead (skipped (tokenL n st)) := by
          rw [hsk, ht]
          refine ⟨rfl, rfl, rfl, ?_, fun c' r' hx => skL_head _ _ (Nat.lt_succ_self _) c' r' hx⟩
          intro u hu
          rcases List.mem_append.1 hu with hu | hu
          · exact h.no u hu
          · simp at hu; rw [hu]; exact hnot
        have hsl : (skipped (tokenL n st)).rest.length ≤ rest'.length := by
          rw [hsk]
          exact skL_len _ _
        rw [loopL_fin] at hfin hno ⊢
        obtain ⟨us, h1, h2, h3, h4, h5⟩ := rowed_fin n F (skipped (tokenL n st)) hah (by omega) hfin hno
        have hkt : kts (skipped (tokenL n st)).toks = kts st.toks ++ [(t.1, BA t.2)] := by
          rw [hsk, ht]
          unfold kts
          rw [List.map_append]
          rfl
        refine ⟨t :: us, ?_, ?_, h3, fun c' r' hx => ⟨t, us, rfl, ?_⟩, fun hx => (by cases hx)⟩
        · rw [h1, hkt, List.append_assoc]
          rfl
        · cases us with
          | nil =>
            refine hone true (fun e => by cases e) (fun h4' => ?_)
            obtain ⟨x, hx⟩ := hio h4'
            have hx2 : ∃ c0 x, rest' = c0 :: x ∧ (c0 = 60 ∨ c0 = 62) := by
              rcases hx with hx | hx
              · exact ⟨60, x, hx, .inl rfl⟩
              · exact ⟨62, x, hx, .inr rfl⟩
            obtain ⟨c0, x, hx, hc0⟩ := hx2
            have hs : (skipped (tokenL n st)).rest = c0 :: x := by
              rw [hsk]
              show skL (rest'.length + 1) rest' = c0 :: x
              rw [hx]
              rcases hc0 with rfl | rfl <;> exact sk_stop (by decide) (by decide) (fun h => absurd h.1 (by decide))
            obtain ⟨_, _, hbad, _⟩ := h4 c0 x hs
            cases hbad
          | cons u us =>
            have hne : rest' ≠ [] := by
              intro e0
              have hs : (skipped (tokenL n st)).rest = [] := by
                rw [hsk, e0]
                rfl
              have := h5 hs
              cases this
            refine ⟨hone false (fun _ => hne) (fun _ => rfl), fun h4' => ?_, h2⟩
            obtain ⟨x, hx⟩ := hio h4'
            have hx2 : ∃ c0 x, rest' = c0 :: x ∧ (c0 = 60 ∨ c0 = 62) := by
              rcases hx with hx | hx
              · exact ⟨60, x, hx, .inl rfl⟩
              · exact ⟨62, x, hx, .inr rfl⟩
            obtain ⟨c0, x, hx, hc0⟩ := hx2
            have hs : (skipped (tokenL n st)).rest = c0 :: x := by
              rw [hsk]
              show skL (rest'.length + 1) rest' = c0 :: x
              rw [hx]
              rcases hc0 with rfl | rfl <;> exact sk_stop (by decide) (by decide) (fun h => absurd h.1 (by decide))
            obtain ⟨t', us', hu, hq⟩ := h4 c0 x hs
            injection hu with hu1 hu2
            obtain ⟨r', hr'⟩ := hq hc0
            rw [hu1]
            rcases hc0 with rfl | rfl
            · exact ⟨r', .inl hr'⟩
            · exact ⟨r', .inr hr'⟩
        · injection hx with hx1 hx2
          rw [← hx1]
          exact hcc
      by_cases h10 : c = 10
      · refine main (3, [10]) R ((n - (R.length + 1) : Nat) : Int) ?_ (Nat.le_refl _) (by decide) (fun last _ _ => one_nl last) (fun h => absurd (show (3 : Int) = 4 from h) (by decide)) (fun h => ?_)
        · rw [hst]
          unfold tokenL
          simp only
          rw [if_pos h10]
          rfl
        · rw [h10] at h
          exact absurd h (by decide)
      · by_cases ho : opL (c :: R) = []
        · have hm := opL_meta ho f1 h10
          have htk : tokenL n st = wordTok n st := by
            rw [hst]
            unfold tokenL
            simp only
            rw [if_neg h10, if_pos ho]
          cases hw : wordL (R.length + 1 + 1) (c :: R) with
          | err e0 m0 =>
            have : (wordTok n st).flt = e0 := by
              rw [hst]
              unfold wordTok
              simp only [List.length_cons]
              rw [hw]
            rw [htk, this] at htf
            exact absurd htf (wordL_err _ hw)
          | ok r =>
            have hlt := wordL_lt hw hm
            obtain ⟨word, hword⟩ := wordL_suf _ hw
            have hlen := congrArg List.length hword
            rw [List.length_append, List.length_cons] at hlen
            have hwn : word ≠ [] := fun e => by rw [e] at hlen; simp at hlen; omega
            have hwt : (c :: R).take (R.length + 1 - r.length) = word := by
              rw [hword, show R.length + 1 - r.length = word.length by omega, List.take_left]
            have hc60 : ¬ (c = 60 ∨ c = 62) := by
              rintro (e | e) <;> (rw [e] at hm; exact absurd hm (by decide))
            have hnot : BA word ≠ BA [60, 60] ∧ BA word ≠ BA [60, 60, 45] := by
              obtain ⟨w', hw'⟩ : ∃ w', word = c :: w' := by
                cases word with
                | nil => exact absurd rfl hwn
                | cons d w' => injection hword with e1 e2; exact ⟨w', by rw [e1]⟩
              refine ⟨fun e => ?_, fun e => ?_⟩
              · have e := BA_inj e
                rw [hw'] at e
                injection e with e1 e2
                exact hc60 (.inl e1)
              · have e := BA_inj e
                rw [hw'] at e
                injection e with e1 e2
                exact hc60 (.inl e1)
            cases hD : (digsB word && (r.head? == some 60 || r.head? == some 62)) with
            | true =>
              rw [Bool.and_eq_true] at hD
              refine main (4, word) r ((n - (R.length + 1) : Nat) : Int) ?_ hlt hnot (fun last hl h4 => one_word hm f2 f3 hw hword hwn hl (.inr ⟨rfl, hD.1, h4 rfl⟩)) (fun _ => ?_) (fun h => absurd h hc60)
              · rw [hst, tok_io h10 ho hw hwt (by rw [hD.1, hD.2]; rfl)]
                rfl
              · have := hD.2
                rw [Bool.or_eq_true] at this
                cases r with
                | nil => simp at this
                | cons x r =>
                  rcases this with h | h
                  · exact ⟨r, .inl (by simp at h; rw [h])⟩
                  · exact ⟨r, .inr (by simp at h; rw [h])⟩
            | false =>
              refine main (1, word) r ((n - (R.length + 1) : Nat) : Int) ?_ hlt hnot (fun last hl _ => one_word hm f2 f3 hw hword hwn hl (.inl rfl)) (fun h => absurd (show (1 : Int) = 4 from h) (by decide)) (fun h => absurd h hc60)
              rw [hst, tok_word h10 ho hw hwt hD, awaitL_other (by exact h.no)]
              rfl
        · rcases opL_cases (c :: R) with h0 | ⟨hmem, _⟩
          · exact absurd h0 ho
          · have htk : tokenL n st = ⟨(c :: R).drop (opL (c :: R)).length, st.toks ++ [⟨2, BA (opL (c :: R)), ((n - (R.length + 1) : Nat) : Int), ⟨#[]⟩, false⟩], [], 0, 0⟩ := by
              rw [hst, tok_op h10 rfl ho]
              rfl
            have hin : (2, BA (opL (c :: R))) ∈ kts (loopL n (F + 1) (tokenL n st)).toks := by
              refine hpre.subset ?_
              rw [htk]
              unfold kts
              simp
            obtain ⟨n1, n2⟩ := hno _ hin rfl
            have hpr := opL_pre (c :: R)
            have hol : 0 < (opL (c :: R)).length := List.length_pos_iff.2 ho
            refine main (2, opL (c :: R)) ((c :: R).drop (opL (c :: R)).length) _ htk (by rw [List.length_drop, List.length_cons]; omega) ⟨n1, n2⟩ (fun last _ _ => one_op last _ hmem (fun e => n1 (by rw [e])) (fun e => n2 (by rw [e]))) (fun h => absurd (show (2 : Int) = 4 from h) (by decide)) (fun _ => ?_)
            cases ho' : opL (c :: R) with
            | nil => exact absurd ho' ho
            | cons d s =>
              rw [ho'] at hpr
              obtain ⟨t, ht⟩ := hpr
              injection ht with e1 e2
              exact ⟨s, by rw [e1]⟩
termination_by F => F

theorem joinT_len : ∀ l : List KT, Rowed l → l.length ≤ (joinT l).length ∧ (joinT l).length ≤ (l.map (fun t => t.2.length)).sum + l.length
  | [], _ => ⟨Nat.le_refl _, Nat.le_refl _⟩
  | [t], h => by
    have : 0 < t.2.length := List.length_pos_iff.2 h.ne
    simp [joinT]
    omega
  | t :: u :: ts, h => by
    obtain ⟨h1, h2⟩ := joinT_len (u :: ts) h.2.2
    have h0 : 0 < t.2.length := List.length_pos_iff.2 h.1.ne
    rw [joinT]
    split
    · rw [List.length_append]
      simp only [List.map_cons, List.sum_cons, List.length_cons] at h1 h2 ⊢
      omega
    · rw [List.length_append, List.length_cons]
      simp only [List.map_cons, List.sum_cons, List.length_cons] at h1 h2 ⊢
      omega
theorem stands_sum {l : List UInt8} : ∀ (ts : List (Int × ByteArray)) (e : Nat), Stands l e ts → e ≤ l.length → (ts.map (fun t => t.2.size)).sum + e ≤ l.length
  | [], e, _, he => by simpa using he
  | t :: ts, e, h, _ => by
    obtain ⟨⟨p, h1, h2, h3, h4, _⟩, h5⟩ := h
    have he : endOf t = p + t.2.size := by
      unfold endOf
      rw [h1]
      omega
    have := stands_sum ts (endOf t) h5 (by omega)
    rw [List.map_cons, List.sum_cons]
    omega
/-- Kinds and texts of tokens, as lists. -/
def ktl (ts : List Tok) : List KT := ts.map (fun t => (t.kind, t.text.data.toList))
theorem ofKT_ktl (ts : List Tok) : ofKT (ktl ts) = kts ts := by
  unfold ofKT ktl kts
  rw [List.map_map]
  rfl
theorem ofKT_inj : ∀ {a b : List KT}, ofKT a = ofKT b → a = b
  | [], [], _ => rfl
  | [], y :: b, h => by cases h
  | x :: a, [], h => by cases h
  | x :: a, y :: b, h => by
    have h : (x.1, BA x.2) :: ofKT a = (y.1, BA y.2) :: ofKT b := h
    injection h with h1 h2
    injection h1 with h3 h4
    rw [ofKT_inj h2, show x = y from Prod.ext h3 (BA_inj h4)]

/-- Tokens are tokens again. -/
theorem lexL_again (l : List UInt8) (hl : l.length ≤ 1000) (h0 : (lexL l).2.2 = 0) (hno : NoHere (kts (lexL l).1)) : Rowed (ktl (lexL l).1) ∧ (joinT (ktl (lexL l).1)).length ≤ 2000 ∧ (lexL (joinT (ktl (lexL l).1))).2.2 = 0 ∧ kts (lexL (joinT (ktl (lexL l).1))).1 = kts (lexL l).1 := by
  have hst := (lexL_stands l (by omega)).1
  have hsum := stands_sum _ _ hst (Nat.zero_le _)
  have hcnt := stands_len2 _ _ hst (Nat.zero_le _)
  obtain ⟨T, hT⟩ : ∃ T, T = loopL l.length (l.length + 1) ⟨l, [], [], 0, 0⟩ := ⟨_, rfl⟩
  have hL : lexL l = ((match T.wait with
      | [] => T
      | x :: _ => T.fail 12 (T.posOf x.tok)).toks, (match T.wait with
      | [] => T
      | x :: _ => T.fail 12 (T.posOf x.tok)).blm, (match T.wait with
      | [] => T
      | x :: _ => T.fail 12 (T.posOf x.tok)).flt) := by
    unfold lexL
    rw [if_neg (by omega), ← hT]
    rfl
  have htk : (lexL l).1 = T.toks := by
    rw [hL]
    cases T.wait with
    | nil => rfl
    | cons x ws => simp only; unfold LS.fail; split <;> rfl
  have hfl : T.flt = 0 := by
    rw [hL] at h0
    cases hw : T.wait with
    | nil => rw [hw] at h0; exact h0
    | cons x ws =>
      rw [hw] at h0
      simp only at h0
      unfold LS.fail at h0
      split at h0
      · next hf => exact hf
      · exact h0
  rw [htk] at hno ⊢
  rw [loopL_fin] at hT
  have hah : Ahead (skipped ⟨l, [], [], 0, 0⟩) := by
    unfold skipped
    rw [if_pos rfl]
    exact ⟨rfl, rfl, rfl, fun u hu => by simp at hu, fun c r hx => skL_head _ _ (Nat.lt_succ_self _) c r hx⟩
  have hsl : (skipped ⟨l, [], [], 0, 0⟩).rest.length ≤ l.length := by
    unfold skipped
    rw [if_pos rfl]
    exact skL_len _ _
  obtain ⟨us, h1, h2, h3, _, _⟩ := rowed_fin l.length l.length _ hah hsl (by rw [← hT]; exact hfl) (by rw [← hT]; exact hno)
  rw [← hT] at h1 h3
  have hk0 : kts (skipped ⟨l, [], [], 0, 0⟩).toks = [] := by
    unfold skipped
    rw [if_pos rfl]
    rfl
  rw [hk0, List.nil_append, ← ofKT_ktl] at h1
  have hus := ofKT_inj h1
  rw [← hus] at h2
  obtain ⟨j1, j2⟩ := joinT_len _ h2
  have hs2 : ((ktl T.toks).map (fun t => t.2.length)).sum + (ktl T.toks).length ≤ 2000 := by
    have e1 : (ktl T.toks).map (fun t => t.2.length) = (pts (lexL l).1).map (fun t => t.2.size) := by
      rw [htk]
      unfold ktl pts
      rw [List.map_map, List.map_map]
      apply List.map_congr_left
      intro t _
      exact data_len t.text
    have e2 : (ktl T.toks).length = (pts (lexL l).1).length := by
      rw [htk]
      unfold ktl pts
      rw [List.length_map, List.length_map]
    rw [e1, e2]
    omega
  refine ⟨h2, by omega, ?_⟩
  obtain ⟨vs, hv, hk⟩ := loop_again (joinT (ktl T.toks)).length (ktl T.toks) [] ((joinT (ktl T.toks)).length + 1) false h2 (fun u hu => by simp at hu) (by omega) (fun e => by cases e)
  have hv : loopL (joinT (ktl T.toks)).length ((joinT (ktl T.toks)).length + 1) ⟨joinT (ktl T.toks), [], [], 0, 0⟩ = ⟨[], vs, [], 0, 0⟩ := hv
  have hL2 : lexL (joinT (ktl T.toks)) = (vs, 0, 0) := by
    unfold lexL
    rw [if_neg (by omega), hv]
  rw [hL2]
  refine ⟨rfl, ?_⟩
  rw [hk, ← ofKT_ktl]
  rfl

end Go.Proofs.YtlmpdfeidjnmnaaDoor

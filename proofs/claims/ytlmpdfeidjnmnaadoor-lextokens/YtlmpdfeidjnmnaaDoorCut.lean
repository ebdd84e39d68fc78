/-
  The tokens of a text's first lines.
-/
import Derived.Test.YtlmpdfeidjnmnaaDoorStand
namespace Go.Proofs.YtlmpdfeidjnmnaaDoor
open Go.RowKit

/-- A byte that opens nothing. -/
def plainB (c : UInt8) : Bool := !(c == 92 || c == 39 || c == 34 || c == 40 || c == 123 || c == 60 || c == 96)
theorem plainB_of {c : UInt8} (h : plainB c = true) : c ≠ 92 ∧ c ≠ 39 ∧ c ≠ 34 ∧ c ≠ 40 ∧ c ≠ 123 ∧ c ≠ 60 ∧ c ≠ 96 := by
  unfold plainB at h
  simp at h
  obtain ⟨⟨⟨⟨⟨⟨h1, h2⟩, h3⟩, h4⟩, h5⟩, h6⟩, h7⟩ := h
  exact ⟨h1, h2, h3, h4, h5, h6, h7⟩
def Pl (x : List UInt8) : Prop := ∀ c ∈ x, plainB c = true
theorem Pl.suf {x y : List UInt8} (h : Pl x) (hs : y <:+ x) : Pl y := fun c hc => h c (hs.subset hc)
theorem dw10 (x b : List UInt8) : (x ++ 10 :: b).dropWhile (fun c => c != 10) = x.dropWhile (fun c => c != 10) ++ (if x.any (fun c => c == 10) then 10 :: b else 10 :: b) := by
  induction x with
  | nil => rfl
  | cons c x ih =>
    rw [List.cons_append, List.dropWhile_cons, List.dropWhile_cons]
    by_cases h : (c != 10) = true
    · rw [if_pos h, if_pos h, ih]
      simp
    · rw [if_neg h, if_neg h]
      simp
/-- What is passed over ahead of a token, in a line that opens nothing. -/
theorem sk_cut : ∀ (n : Nat) (x : List UInt8), x.length ≤ n → Pl x → ∃ y, y <:+ x ∧ (∀ c r, y = c :: r → blkB (c.toNat : Int) = false ∧ c ≠ 35) ∧ ∀ (b : List UInt8) (f : Nat), x.length + 1 ≤ f → skL f (x ++ 10 :: b) = y ++ 10 :: b
  | n, [], _, _ => by
    refine ⟨[], List.suffix_refl _, fun c r h => (by cases h), fun b f hf => ?_⟩
    obtain ⟨f, rfl⟩ : ∃ g, f = g + 1 := ⟨f - 1, by simp at hf; omega⟩
    show skL (f + 1) (10 :: b) = 10 :: b
    rw [skL_cons, if_neg (by decide), if_neg (fun h => absurd h.1 (by decide)), if_neg (by decide)]
  | 0, c :: x, hn, _ => by simp at hn
  | n + 1, c :: x, hn, hp => by
    simp at hn
    have hc := plainB_of (hp c (by simp))
    have hpx : Pl x := fun d hd => hp d (by simp [hd])
    by_cases hb : blkB (c.toNat : Int) = true
    · obtain ⟨y, h1, h2, h3⟩ := sk_cut n x hn hpx
      refine ⟨y, h1.trans (List.suffix_cons c x), h2, fun b f hf => ?_⟩
      simp at hf
      obtain ⟨f, rfl⟩ : ∃ g, f = g + 1 := ⟨f - 1, by omega⟩
      rw [List.cons_append, skL_cons, if_pos hb]
      exact h3 b f (by omega)
    · by_cases h35 : c = 35
      · have hlen := dropWhile_len (fun c => c != 10) x
        obtain ⟨y, h1, h2, h3⟩ := sk_cut n (x.dropWhile (fun c => c != 10)) (by omega) (hpx.suf (List.dropWhile_suffix _))
        refine ⟨y, (h1.trans (List.dropWhile_suffix _)).trans (List.suffix_cons c x), h2, fun b f hf => ?_⟩
        simp at hf
        obtain ⟨f, rfl⟩ : ∃ g, f = g + 1 := ⟨f - 1, by omega⟩
        rw [List.cons_append, skL_cons, if_neg hb, if_neg (fun h => hc.1 h.1), if_pos h35, dw10]
        have : (if x.any (fun c => c == 10) then 10 :: b else 10 :: b) = 10 :: b := by split <;> rfl
        rw [this]
        exact h3 b f (by omega)
      · refine ⟨c :: x, List.suffix_refl _, fun d r h => ?_, fun b f hf => ?_⟩
        · injection h with h1 h2
          rw [← h1]
          exact ⟨by simpa using hb, h35⟩
        · simp at hf
          obtain ⟨f, rfl⟩ : ∃ g, f = g + 1 := ⟨f - 1, by omega⟩
          rw [List.cons_append, skL_cons, if_neg hb, if_neg (fun h => hc.1 h.1), if_neg h35]

/-- A byte that opens nothing is a thing. -/
theorem thg_plain {f : Nat} {c : UInt8} {r : List UInt8} (hc : plainB c = true) (hr : r.head? ≠ some 123 ∧ r.head? ≠ some 40) : thg (f + 1) (c :: r) 0 0 = .ok r := by
  obtain ⟨h1, h2, h3, h4, _, _, h7⟩ := plainB_of hc
  rw [thg_succ, if_neg h1, if_neg h3, if_neg h2]
  by_cases h36 : c = 36
  · rw [if_pos h36, if_neg hr.1, if_neg hr.2]
  · rw [if_neg h36, if_neg h4, if_neg h7]
theorem pl_head {x b : List UInt8} (h : Pl x) : (x ++ 10 :: b).head? ≠ some 123 ∧ (x ++ 10 :: b).head? ≠ some 40 := by
  cases x with
  | nil => exact ⟨by simp, by simp⟩
  | cons c x =>
    have := plainB_of (h c (by simp))
    refine ⟨fun e => ?_, fun e => ?_⟩
    · have e : c = 123 := by simpa using e
      exact this.2.2.2.2.1 e
    · have e : c = 40 := by simpa using e
      exact this.2.2.2.1 e
theorem word_cut : ∀ (x : List UInt8), Pl x → ∃ y, y <:+ x ∧ ∀ (b : List UInt8) (f : Nat), x.length + 1 ≤ f → wordL f (x ++ 10 :: b) = .ok (y ++ 10 :: b)
  | [], _ => ⟨[], List.suffix_refl _, fun b f hf => by
      obtain ⟨f, rfl⟩ : ∃ g, f = g + 1 := ⟨f - 1, by simp at hf; omega⟩
      show wordL (f + 1) (10 :: b) = .ok (10 :: b)
      rw [wordL_cons, if_pos (by decide)]⟩
  | c :: x, hp => by
    by_cases hm : metB (c.toNat : Int) = true
    · refine ⟨c :: x, List.suffix_refl _, fun b f hf => ?_⟩
      obtain ⟨f, rfl⟩ : ∃ g, f = g + 1 := ⟨f - 1, by simp at hf; omega⟩
      rw [List.cons_append, wordL_cons, if_pos hm]
    · have hpx : Pl x := fun d hd => hp d (by simp [hd])
      obtain ⟨y, h1, h2⟩ := word_cut x hpx
      refine ⟨y, h1.trans (List.suffix_cons c x), fun b f hf => ?_⟩
      simp at hf
      obtain ⟨f, rfl⟩ : ∃ g, f = g + 1 := ⟨f - 1, by omega⟩
      rw [List.cons_append, wordL_cons, if_neg hm, show 3 * ((x ++ 10 :: b).length + 1) + 3 = (3 * ((x ++ 10 :: b).length + 1) + 2) + 1 from rfl, thg_plain (hp c (by simp)) (pl_head hpx)]
      exact h2 b f (by omega)

/-- An operator hangs on two bytes, unless it begins with a less-than sign. -/
theorem op_cut (c : UInt8) (z b : List UInt8) (hc : c ≠ 60) (hz : z ≠ []) : opL (c :: (z ++ b)) = opL (c :: z) := by
  have hh : (z ++ b).head? = z.head? := by
    cases z with
    | nil => exact absurd rfl hz
    | cons x z => rfl
  have two : ∀ p q, Lib.hasPrefix (c :: (z ++ b)) [p, q] = Lib.hasPrefix (c :: z) [p, q] := fun p q => by rw [hasP_two, hasP_two, hh]
  have one : ∀ p, Lib.hasPrefix (c :: (z ++ b)) [p] = Lib.hasPrefix (c :: z) [p] := fun p => by rw [hasP_one, hasP_one]
  have three : ∀ l : List UInt8, Lib.hasPrefix (c :: l) [60, 60, 45] = false := fun l => by
    show (60 == c && _) = false
    rw [show ((60 : UInt8) == c) = false from beq_false_of_ne (fun e => hc e.symm)]
    rfl
  unfold opL opFrom opsT
  simp only [List.drop_zero, List.find?_cons, two, one, three]
  rfl

theorem awaitL_not {st : LS} {word : List UInt8} (h : ∀ t ∈ st.toks, t.text.data.toList.head? ≠ some 60) : awaitL st word = st := by
  unfold awaitL
  split
  · rfl
  · next t ht =>
    have hm : t ∈ st.toks := List.mem_of_getLast? ht
    have h1 := h t hm
    rw [if_neg]
    rintro (e | e) <;> · rw [e] at h1; exact h1 rfl

/-- A token of a line that opens nothing, with anything behind the line. -/
theorem tok_cut (y : List UInt8) (c : UInt8) (ts : List Tok) (n : Nat) (hp : Pl (c :: y)) (hb : blkB (c.toNat : Int) = false) (hts : ∀ t ∈ ts, t.text.data.toList.head? ≠ some 60) (hn : y.length + 2 ≤ n) :
    ∃ y' t, y'.length ≤ y.length ∧ Pl y' ∧ t.text.data.toList.head? ≠ some 60 ∧ ∀ b, tokenL (n + b.length) ⟨c :: (y ++ 10 :: b), ts, [], 0, 0⟩ = ⟨y' ++ 10 :: b, ts ++ [t], [], 0, 0⟩ := by
  have hc := plainB_of (hp c (by simp))
  have hpy : Pl y := fun d hd => hp d (by simp [hd])
  have hpos : ∀ b : List UInt8, n + b.length - ((y ++ 10 :: b).length + 1) = n - (y.length + 2) := fun b => by
    rw [List.length_append, List.length_cons]; omega
  by_cases h10 : c = 10
  · refine ⟨y, ⟨3, BA [10], ((n - (y.length + 2) : Nat) : Int), ⟨#[]⟩, false⟩, Nat.le_refl _, hpy, (by show some (10 : UInt8) ≠ some 60; decide), fun b => ?_⟩
    unfold tokenL
    simp only [hpos]
    rw [if_pos h10]
    rfl
  · have hop : ∀ b : List UInt8, opL (c :: (y ++ 10 :: b)) = opL (c :: (y ++ [10])) := fun b => by
      have := op_cut c (y ++ [10]) b hc.2.2.2.2.2.1 (by simp)
      rwa [List.append_assoc] at this
    by_cases ho : opL (c :: (y ++ [10])) = []
    · have hm := opL_meta ho hb h10
      obtain ⟨y', h1, h2⟩ := word_cut y hpy
      obtain ⟨tt, htt⟩ := h1
      have hlen := congrArg List.length htt
      rw [List.length_append] at hlen
      have hw : ∀ b : List UInt8, wordL ((y ++ 10 :: b).length + 1 + 1) (c :: (y ++ 10 :: b)) = .ok (y' ++ 10 :: b) := fun b => by
        rw [wordL_cons, if_neg (by rw [hm]; decide), show 3 * ((y ++ 10 :: b).length + 1) + 3 = (3 * ((y ++ 10 :: b).length + 1) + 2) + 1 from rfl, thg_plain (hp c (by simp)) (pl_head hpy)]
        exact h2 b _ (by rw [List.length_append, List.length_cons]; omega)
      have htk : ∀ b : List UInt8, (c :: (y ++ 10 :: b)).take ((y ++ 10 :: b).length + 1 - (y' ++ 10 :: b).length) = c :: tt := fun b => by
        rw [← htt, List.append_assoc, ← List.cons_append]
        have e : (tt ++ (y' ++ 10 :: b)).length + 1 - (y' ++ 10 :: b).length = (c :: tt).length := by rw [List.length_append, List.length_cons]; omega
        rw [e, List.take_left]
      have hh : ∀ b : List UInt8, (y' ++ 10 :: b).head? = (y' ++ [10]).head? := fun b => by cases y' <;> rfl
      have hpy' : Pl y' := hpy.suf ⟨tt, htt⟩
      cases hD : (digsB (c :: tt) && ((y' ++ [10]).head? == some 60 || (y' ++ [10]).head? == some 62)) with
      | true =>
        refine ⟨y', ⟨4, BA (c :: tt), ((n - (y.length + 2) : Nat) : Int), ⟨#[]⟩, false⟩, by omega, hpy', ?_, fun b => ?_⟩
        · show some c ≠ some 60
          intro e; injection e with e; exact hc.2.2.2.2.2.1 e
        · unfold tokenL
          simp only [hpos]
          rw [if_neg h10, hop b, if_pos ho]
          unfold wordTok
          simp only [List.length_cons]
          rw [hw b]
          simp only
          rw [htk b, hh b, hD, if_pos rfl, hpos]
          rfl
      | false =>
        refine ⟨y', ⟨1, BA (c :: tt), ((n - (y.length + 2) : Nat) : Int), ⟨#[]⟩, false⟩, by omega, hpy', ?_, fun b => ?_⟩
        · show some c ≠ some 60
          intro e; injection e with e; exact hc.2.2.2.2.2.1 e
        · unfold tokenL
          simp only [hpos]
          rw [if_neg h10, hop b, if_pos ho]
          unfold wordTok
          simp only [List.length_cons]
          rw [hw b]
          simp only
          rw [htk b, hh b, hD, if_neg (by decide), hpos, awaitL_not (by exact hts)]
          rfl
    · rcases opL_cases (c :: (y ++ [10])) with h0 | ⟨hmem, hpre⟩
      · exact absurd h0 ho
      · have hpre2 := opL_pre (c :: (y ++ [10]))
        obtain ⟨rr, hrr⟩ := hpre2
        generalize hO : opL (c :: (y ++ [10])) = O at *
        have h1 : (∃ p, O = [p]) ∨ (∃ p q, O = [p, q] ∧ q ≠ 10) ∨ O = [60, 60, 45] := by
          have : ∀ o ∈ opsT, (∃ p, o = [p]) ∨ (∃ p q, o = [p, q] ∧ q ≠ 10) ∨ o = [60, 60, 45] := by
            intro o ho
            unfold opsT at ho
            simp at ho
            rcases ho with h | h | h | h | h | h | h | h | h | h | h | h | h | h | h | h <;> subst h <;> first | exact .inl ⟨_, rfl⟩ | exact .inr (.inl ⟨_, _, rfl, by decide⟩) | exact .inr (.inr rfl)
          exact this O hmem
        rcases h1 with ⟨p, rfl⟩ | ⟨p, q, rfl, hq⟩ | rfl
        · have hcp : p = c := by injection hrr
          refine ⟨y, ⟨2, BA [p], ((n - (y.length + 2) : Nat) : Int), ⟨#[]⟩, false⟩, Nat.le_refl _, hpy, ?_, fun b => ?_⟩
          · show some p ≠ some 60
            rw [hcp]
            intro e; injection e with e; exact hc.2.2.2.2.2.1 e
          · unfold tokenL
            simp only [hpos]
            rw [if_neg h10, hop b, if_neg (by simp)]
            rfl
        · have hcp : p = c := by injection hrr
          have hy : [q] ++ rr = y ++ [10] := by injection hrr
          cases y with
          | nil =>
            have : q = 10 := by injection hy
            exact absurd this hq
          | cons d y =>
            have hd : q = d := by injection hy
            refine ⟨y, ⟨2, BA [p, q], ((n - (List.length (d :: y) + 2) : Nat) : Int), ⟨#[]⟩, false⟩, by simp, fun x hx => hpy x (by simp [hx]), ?_, fun b => ?_⟩
            · show some p ≠ some 60
              rw [hcp]
              intro e; injection e with e; exact hc.2.2.2.2.2.1 e
            · unfold tokenL
              simp only [hpos]
              rw [if_neg h10, hop b, if_neg (by simp)]
              rfl
        · have : c = 60 := by injection hrr with h; exact h.symm
          exact absurd this hc.2.2.2.2.2.1

theorem loopL_zero {n F : Nat} {st : LS} (h : st.flt = 0) (hr : skL (st.rest.length + 1) st.rest ≠ []) : loopL n (F + 1) st = loopL n F (tokenL n { st with rest := skL (st.rest.length + 1) st.rest }) := by
  rw [loopL, if_pos h]
  simp only
  rw [if_neg hr]

/-- First lines that open nothing: their tokens, and on behind them. -/
theorem loop_cut : ∀ (k : Nat) (x : List UInt8) (ts : List Tok) (n : Nat), x.length < k → Pl x → (∀ t ∈ ts, t.text.data.toList.head? ≠ some 60) → x.length + 1 ≤ n →
    ∃ us p, (∀ F, x.length + 1 ≤ F → loopL n (F + 1) ⟨x ++ [10], ts, [], 0, 0⟩ = ⟨[], us ++ [⟨3, BA [10], p, ⟨#[]⟩, false⟩], [], 0, 0⟩) ∧ (∀ b F, x.length + 1 ≤ F → ∃ G, F ≤ G + x.length + 1 ∧ loopL (n + b.length) F ⟨x ++ 10 :: b, ts, [], 0, 0⟩ = loopL (n + b.length) G ⟨b, us ++ [⟨3, BA [10], p, ⟨#[]⟩, false⟩], [], 0, 0⟩)
  | 0, x, _, _, hx, _, _, _ => by omega
  | k + 1, x, ts, n, hx, hp, hts, hn => by
    obtain ⟨y, hy1, hy2, hy3⟩ := sk_cut x.length x (Nat.le_refl _) hp
    have hyl := hy1.length_le
    have hsk : ∀ b : List UInt8, skL ((x ++ 10 :: b).length + 1) (x ++ 10 :: b) = y ++ 10 :: b := fun b => hy3 b _ (by rw [List.length_append, List.length_cons]; omega)
    have hstep : ∀ (b : List UInt8) (m F : Nat), loopL m (F + 1) ⟨x ++ 10 :: b, ts, [], 0, 0⟩ = loopL m F (tokenL m ⟨y ++ 10 :: b, ts, [], 0, 0⟩) := fun b m F => by
      rw [loopL_zero (st := ⟨x ++ 10 :: b, ts, [], 0, 0⟩) rfl (by rw [hsk b]; simp)]
      rw [hsk b]
    cases y with
    | nil =>
      have htok : ∀ b : List UInt8, tokenL (n + b.length) ⟨[] ++ 10 :: b, ts, [], 0, 0⟩ = ⟨b, ts ++ [⟨3, BA [10], ((n - 1 : Nat) : Int), ⟨#[]⟩, false⟩], [], 0, 0⟩ := fun b => by
        have e : n + b.length - (b.length + 1) = n - 1 := by omega
        unfold tokenL
        simp only [List.nil_append, e]
        rw [if_pos trivial]
        rfl
      refine ⟨ts, ((n - 1 : Nat) : Int), fun F hF => ?_, fun b F hF => ?_⟩
      · rw [hstep [] n F]
        have := htok []
        rw [List.length_nil, Nat.add_zero] at this
        rw [this]
        obtain ⟨F, rfl⟩ : ∃ g, F = g + 1 := ⟨F - 1, by omega⟩
        rfl
      · obtain ⟨F, rfl⟩ : ∃ g, F = g + 1 := ⟨F - 1, by omega⟩
        exact ⟨F, by omega, by rw [hstep b _ F, htok b]⟩
    | cons c y =>
      rw [List.length_cons] at hyl
      obtain ⟨y', t, h1, h2, h3, h4⟩ := tok_cut y c ts n (hp.suf hy1) (hy2 c y rfl).1 hts (by omega)
      obtain ⟨us, p, h5, h6⟩ := loop_cut k y' (ts ++ [t]) n (by omega) h2 (fun u hu => by
        rcases List.mem_append.1 hu with hu | hu
        · exact hts u hu
        · simp at hu; rw [hu]; exact h3) (by omega)
      refine ⟨us, p, fun F hF => ?_, fun b F hF => ?_⟩
      · rw [hstep [] n F]
        have := h4 []
        rw [List.length_nil, Nat.add_zero] at this
        rw [List.cons_append, this]
        obtain ⟨F, rfl⟩ : ∃ g, F = g + 1 := ⟨F - 1, by omega⟩
        exact h5 F (by omega)
      · obtain ⟨F, rfl⟩ : ∃ g, F = g + 1 := ⟨F - 1, by omega⟩
        obtain ⟨G, hG, he⟩ := h6 b F (by omega)
        exact ⟨G, by omega, by rw [hstep b _ F, List.cons_append, h4 b, he]⟩

/-- The first tokens stay as they are. -/
structure Keep (us : List Tok) (st : LS) : Prop where
  le : us.length ≤ st.toks.length
  tk : st.toks.take us.length = us
  wt : ∀ x ∈ st.wait, us.length ≤ x.tok
  last : ∃ t, us.getLast? = some t ∧ t.text = BA [10]
theorem take_modify {l : List Tok} {k i : Nat} {g : Tok → Tok} (h : k ≤ i) : (l.modify i g).take k = l.take k := by
  apply List.ext_getElem?
  intro j
  rw [List.getElem?_take, List.getElem?_take]
  by_cases hj : j < k
  · rw [if_pos hj, if_pos hj, List.getElem?_modify]
    have hne : ¬ i = j := by omega
    cases l[j]? with
    | none => rfl
    | some t => simp [hne]
  · rw [if_neg hj, if_neg hj]
theorem Keep.add {us : List Tok} {st : LS} (h : Keep us st) (kind pos : Int) (text : List UInt8) : Keep us (st.add kind text pos) := by
  refine ⟨?_, ?_, h.wt, h.last⟩
  · show us.length ≤ (st.toks ++ [_]).length
    rw [List.length_append]
    have := h.le
    omega
  · show (st.toks ++ [_]).take us.length = us
    rw [List.take_append_of_le_length h.le]
    exact h.tk
theorem takeUpL_keep {us : List Tok} {st : LS} {x : Wt} (h : Keep us st) (hx : us.length ≤ x.tok) : Keep us (takeUpL st x) := by
  unfold takeUpL
  split
  · split
    · exact ⟨by show us.length ≤ (st.toks.modify _ _).length; rw [List.length_modify]; exact h.le, by show (st.toks.modify _ _).take us.length = us; rw [take_modify hx]; exact h.tk, h.wt, h.last⟩
    · unfold LS.fail; split <;> exact ⟨h.le, h.tk, h.wt, h.last⟩
  · exact h
theorem foldl_keep {us : List Tok} (ws : List Wt) : ∀ st : LS, Keep us st → (∀ x ∈ ws, us.length ≤ x.tok) → Keep us (ws.foldl takeUpL st) := by
  induction ws with
  | nil => intro st h _; exact h
  | cons x ws ih =>
    intro st h hw
    rw [List.foldl_cons]
    exact ih _ (takeUpL_keep h (hw x (by simp))) (fun y hy => hw y (by simp [hy]))
theorem awaitL_keep {us : List Tok} {st : LS} (word : List UInt8) (h : Keep us st) : Keep us (awaitL st word) := by
  unfold awaitL
  split
  · exact h
  · next t ht =>
    split
    · next hc =>
      have hlt : us.length ≤ st.toks.length - 1 := by
        have hle := h.le
        rcases Nat.lt_or_ge us.length st.toks.length with h1 | h1
        · omega
        · have : st.toks = us := by
            have := h.tk
            rwa [List.take_of_length_le h1] at this
          obtain ⟨t', h2, h3⟩ := h.last
          rw [this, h2] at ht
          injection ht with ht
          rw [← ht, h3] at hc
          exact absurd hc (by decide)
      refine ⟨?_, ?_, ?_, h.last⟩
      · show us.length ≤ (st.toks.modify _ _).length
        rw [List.length_modify]; exact h.le
      · show (st.toks.modify _ _).take us.length = us
        rw [take_modify hlt]; exact h.tk
      · intro x hx
        have hx : x ∈ st.wait ++ [_] := hx
        rcases List.mem_append.1 hx with hx | hx
        · exact h.wt x hx
        · simp at hx
          rw [hx]
          exact hlt
    · exact h
theorem Keep.rest {us : List Tok} {st : LS} (h : Keep us st) (r : List UInt8) : Keep us { st with rest := r } := ⟨h.le, h.tk, h.wt, h.last⟩
theorem tokenL_keep {us : List Tok} {st : LS} (n : Nat) (h : Keep us st) : Keep us (tokenL n st) := by
  unfold tokenL
  split
  · exact h
  · next c r _ =>
    simp only
    split
    · unfold newlineL
      simp only
      have h1 := foldl_keep st.wait _ (h.rest r) h.wt
      split
      · exact Keep.add (st := { (st.wait.foldl takeUpL { st with rest := r }) with wait := [] }) ⟨h1.le, h1.tk, fun x hx => by simp at hx, h1.last⟩ _ _ _
      · exact h1
    · split
      · unfold wordTok
        simp only
        split
        · exact ⟨h.le, h.tk, h.wt, h.last⟩
        · split
          · exact (h.rest _).add _ _ _
          · exact (awaitL_keep _ (h.rest _)).add _ _ _
      · exact (h.rest _).add _ _ _
theorem loopL_keep {us : List Tok} (n : Nat) : ∀ (F : Nat) (st : LS), Keep us st → Keep us (loopL n F st)
  | 0, st, h => h
  | F + 1, st, h => by
    rw [loopL]
    split
    · simp only
      split
      · exact h.rest _
      · exact loopL_keep n F _ (tokenL_keep n (h.rest _))
    · exact h

/-- The tokens of a text's first lines are those of the whole, as far as those lines go. -/
theorem lexL_cut (a b : List UInt8) (ha : a.length ≤ 500) (hb : b.length ≤ 500) (hp : Pl a) : (lexL (a ++ [10])).2.2 = 0 ∧ (lexL (a ++ [10])).1.length ≤ (lexL (a ++ 10 :: b)).1.length ∧ (lexL (a ++ 10 :: b)).1.take (lexL (a ++ [10])).1.length = (lexL (a ++ [10])).1 := by
  obtain ⟨us, p, h1, h2⟩ := loop_cut (a.length + 1) a [] (a.length + 1) (by omega) hp (fun t ht => by simp at ht) (Nat.le_refl _)
  have e1 : lexL (a ++ [10]) = (us ++ [⟨3, BA [10], p, ⟨#[]⟩, false⟩], 0, 0) := by
    unfold lexL
    rw [if_neg (by rw [List.length_append, List.length_singleton]; omega), List.length_append, List.length_singleton, h1 (a.length + 1) (by omega)]
  rw [e1]
  obtain ⟨G, _, he⟩ := h2 b (a.length + 1 + b.length + 1) (by omega)
  have hk : Keep (us ++ [⟨3, BA [10], p, ⟨#[]⟩, false⟩]) (loopL (a.length + 1 + b.length) G ⟨b, us ++ [⟨3, BA [10], p, ⟨#[]⟩, false⟩], [], 0, 0⟩) := loopL_keep _ _ _ ⟨Nat.le_refl _, List.take_length, fun x hx => by simp at hx, ⟨_, List.getLast?_concat, rfl⟩⟩
  rw [← he] at hk
  have e2 : (lexL (a ++ 10 :: b)).1 = (loopL (a.length + 1 + b.length) (a.length + 1 + b.length + 1) ⟨a ++ 10 :: b, [], [], 0, 0⟩).toks := by
    have hl : (a ++ 10 :: b).length = a.length + 1 + b.length := by rw [List.length_append, List.length_cons]; omega
    unfold lexL
    rw [if_neg (by omega), hl]
    simp only
    split
    · rfl
    · unfold LS.fail; split <;> rfl
  rw [e2]
  exact ⟨rfl, hk.le, hk.tk⟩

/-- Texts that stand in l are no more than its bytes. -/
theorem stands_len2 {l : List UInt8} : ∀ (ts : List (Int × ByteArray)) (e : Nat), Stands l e ts → e ≤ l.length → ts.length + e ≤ l.length
  | [], e, _, he => by simpa using he
  | t :: ts, e, h, _ => by
    obtain ⟨⟨p, h1, h2, h3, h4, _⟩, h5⟩ := h
    have h0 : 0 < t.2.size := by
      rw [← data_len]
      exact List.length_pos_iff.2 h3
    have he : endOf t = p + t.2.size := by
      unfold endOf
      rw [h1]
      omega
    have := stands_len2 ts (endOf t) h5 (by omega)
    simp
    omega

end Go.Proofs.YtlmpdfeidjnmnaaDoor

/-
  Texts in quotes, a blank ahead of each: their tokens, and the command that they are.
-/
import Derived.Test.YtnamineofpeahaaGreatDoorM30
import Derived.Test.YtnamineofpeahaaGreatDoorM28
import Derived.Test.YtnamineofpeahaaGreatDoorQuoteP
import Derived.Test.YtnamineofpeahaaGreatDoorPaQuP
import Derived.Test.YtnamineofpeahaaGreatDoorM08
namespace Go.Proofs.YtnamineofpeahaaGreatDoor
open Go.RowKit

theorem ba_injq {a b : List UInt8} (h : BA a = BA b) : a = b := congrArg (fun x : ByteArray => x.data.toList) h
theorem qBody_sng : ∀ s : List UInt8, qBody s = sngT s
 | [] => rfl
 | c :: s => by
   by_cases h : c = 39
   ·subst h
    rw [qBody_39, qBody_sng s]
    simp [sngT, sngC]
   ·rw [qBody_ne h, qBody_sng s]
    simp [sngT, sngC, h]
theorem quote_word (s : List UInt8) (hs : s.length ≤ 300) : wrdL true 0 (quoteL s) = .ok [litP s true] := by
 unfold quoteL
 rw [qBody_sng]
 exact sng_word s hs
theorem quote_len (s : List UInt8) : (quoteL s).length ≤ 4 * s.length + 2 := by
 have := qBody_len s
 unfold quoteL
 simp
 omega
theorem thg_sng (a r : List UInt8) (h : ∀ c ∈ a, c ≠ 39) : thg (3 * ((a ++ 39 :: r).length + 1) + 3) (39 :: (a ++ 39 :: r)) 0 0 = .ok r := by
 rw [show 3 * ((a ++ 39 :: r).length + 1) + 3 = (3 * ((a ++ 39 :: r).length + 1) + 2) + 1 by omega, thg_succ, if_neg (by decide), if_neg (by decide), if_pos rfl, if_neg (by decide), drop39 a r h]
theorem thg_esc (c : UInt8) (r : List UInt8) : thg (3 * ((c :: r).length + 1) + 3) (92 :: c :: r) 0 0 = .ok r := by
 rw [show 3 * ((c :: r).length + 1) + 3 = (3 * ((c :: r).length + 1) + 2) + 1 by omega, thg_succ, if_pos rfl]
 rfl
/-- What stands behind a word: nothing, or a blank. -/
def Bhd (z : List UInt8) : Prop := z = [] ∨ ∃ r, z = 32 :: r
theorem wordL_z {z : List UInt8} (h : Bhd z) : ∀ f, wordL f z = .ok z
 | 0 => by rw [wordL]
 | f + 1 => by
   rcases h with rfl | ⟨r, rfl⟩
   ·rw [wordL]
   ·rw [wordL, if_pos (by decide)]
theorem wordL_q : ∀ (s a z : List UInt8) (f : Nat), (∀ c ∈ a, c ≠ 39) → Bhd z → (qBody s).length + 1 ≤ f → wordL f (39 :: (a ++ (qBody s ++ 39 :: z))) = .ok z
 | [], a, z, f, ha, hz, hf => by
   obtain ⟨f, rfl⟩ : ∃ g, f = g + 1 := ⟨f - 1, by omega⟩
   rw [wordL, if_neg (by decide), show a ++ (qBody [] ++ 39 :: z) = a ++ 39 :: z from rfl, thg_sng a z ha]
   exact wordL_z hz f
 | c :: s, a, z, f, ha, hz, hf => by
   by_cases hc : c = 39
   ·subst hc
    rw [qBody_39] at hf
    simp only [List.length_cons] at hf
    obtain ⟨f, rfl⟩ : ∃ g, f = g + 1 + 1 := ⟨f - 2, by omega⟩
    rw [qBody_39, show a ++ (39 :: 92 :: 39 :: 39 :: qBody s ++ 39 :: z) = a ++ 39 :: (92 :: 39 :: (39 :: (qBody s ++ 39 :: z))) by simp, wordL, if_neg (by decide), thg_sng a _ ha]
    show wordL (f + 1) (92 :: 39 :: (39 :: (qBody s ++ 39 :: z))) = _
    rw [wordL, if_neg (by decide), thg_esc]
    show wordL f (39 :: (qBody s ++ 39 :: z)) = _
    have := wordL_q s [] z f (by simp) hz (by omega)
    rw [List.nil_append] at this
    exact this
   ·have := wordL_q s (a ++ [c]) z f (by
     intro x hx
     rcases List.mem_append.1 hx with hx | hx
     ·exact ha x hx
     ·rw [List.mem_singleton] at hx
      rw [hx]; exact hc) hz (by rw [qBody_ne hc, List.length_cons] at hf; omega)
    rw [qBody_ne hc]
    rw [show a ++ [c] ++ (qBody s ++ 39 :: z) = a ++ (c :: qBody s ++ 39 :: z) by simp] at this
    exact this
theorem wordL_quote (s z : List UInt8) (hz : Bhd z) (f : Nat) (hf : (qBody s).length + 1 ≤ f) : wordL f (quoteL s ++ z) = .ok z := by
 have := wordL_q s [] z f (by simp) hz hf
 rw [List.nil_append] at this
 rw [show quoteL s ++ z = 39 :: (qBody s ++ 39 :: z) by simp [quoteL]]
 exact this
theorem opL_39 (r : List UInt8) : opL (39 :: r) = [] := by
 rcases opL_cases (39 :: r) with e | ⟨e, _⟩
 ·exact e
 ·exfalso
  have hp := opL_pre (39 :: r)
  have hn := (by decide : ∀ o ∈ opsT, o ≠ [] ∧ o.head? ≠ some 39) _ e
  cases ho : opL (39 :: r) with
  | nil => exact hn.1 ho
  | cons d q =>
    rw [ho] at hp
    obtain ⟨y, hy⟩ := hp
    injection hy with hy _
    exact hn.2 (by rw [ho, hy]; rfl)
/-- Tokens none of which awaits a text in place. -/
def Few2 (ts : List Tok) : Prop := ∀ u ∈ ts, u.text ≠ BA [60, 60] ∧ u.text ≠ BA [60, 60, 45]
theorem awaitL_no {st : LS} (h : Few2 st.toks) (x : List UInt8) : awaitL st x = st := by
 unfold awaitL
 cases hl : st.toks.getLast? with
 | none => rfl
 | some t =>
   have := h t (List.mem_of_getLast? hl)
   simp only
   rw [if_neg (fun e => e.elim this.1 this.2)]
theorem quote_few (s : List UInt8) : BA (quoteL s) ≠ BA [60, 60] ∧ BA (quoteL s) ≠ BA [60, 60, 45] := by
 constructor
 ·intro e
  have e2 := ba_injq e
  injection e2 with e3
  exact absurd e3 (by decide)
 ·intro e
  have e2 := ba_injq e
  injection e2 with e3
  exact absurd e3 (by decide)
theorem tokenL_q (n : Nat) (s z : List UInt8) (us : List Tok) (hz : Bhd z) (hu : Few2 us) : ∃ p, tokenL n ⟨quoteL s ++ z, us, [], 0, 0⟩ = ⟨z, us ++ [⟨1, BA (quoteL s), p, ⟨#[]⟩, false⟩], [], 0, 0⟩ := by
 have hc : quoteL s ++ z = 39 :: (qBody s ++ 39 :: z) := by simp [quoteL]
 have hw : wordL ((quoteL s ++ z).length + 1) (quoteL s ++ z) = .ok z := wordL_quote s z hz _ (by rw [hc]; simp; omega)
 refine ⟨((n - (quoteL s ++ z).length : Nat) : Int), ?_⟩
 have ht : tokenL n ⟨quoteL s ++ z, us, [], 0, 0⟩ = wordTok n ⟨quoteL s ++ z, us, [], 0, 0⟩ := by
  unfold tokenL
  rw [hc]
  simp only
  rw [if_neg (by decide), if_pos (opL_39 _)]
 rw [ht]
 unfold wordTok
 simp only
 rw [hw]
 simp only
 have hk : (quoteL s ++ z).take ((quoteL s ++ z).length - z.length) = quoteL s := by
  rw [List.length_append, Nat.add_sub_cancel, List.take_left]
 rw [hk, if_neg (by
  rw [show digsB (quoteL s) = false by
   unfold digsB quoteL
   rw [List.all_cons]
   rfl]
  simp), awaitL_no (st := ⟨z, us, [], 0, 0⟩) hu]
 rfl
/-- The texts, a blank ahead of each. -/
def srcQ (l : List (List UInt8)) : List UInt8 := l.flatMap (fun t => 32 :: quoteL t)
theorem srcQ_cons (t : List UInt8) (l : List (List UInt8)) : srcQ (t :: l) = 32 :: (quoteL t ++ srcQ l) := by simp [srcQ]
theorem srcQ_bhd (l : List (List UInt8)) : Bhd (srcQ l) := by
 cases l with
 | nil => exact .inl rfl
 | cons t l => exact .inr ⟨_, srcQ_cons t l⟩
theorem srcQ_snoc (l : List (List UInt8)) (t : List UInt8) : srcQ (l ++ [t]) = srcQ l ++ 32 :: quoteL t := by simp [srcQ]
theorem srcQ_len {l : List (List UInt8)} (h : ∀ t ∈ l, t.length ≤ 40) : (srcQ l).length ≤ 163 * l.length := by
 induction l with
 | nil => simp [srcQ]
 | cons t l ih =>
   have h1 := ih (fun x hx => h x (by simp [hx]))
   have h2 := quote_len t
   have h3 := h t (by simp)
   rw [srcQ_cons]
   simp
   omega
/-- Tokens that are the texts' words. -/
def QT (vs : List Tok) (l : List (List UInt8)) : Prop := vs.map (fun t => (t.kind, t.text)) = l.map (fun t => ((1 : Int), BA (quoteL t)))
theorem loop_q (n : Nat) : ∀ (l : List (List UInt8)) (us : List Tok) (F : Nat), Few2 us → l.length + 1 ≤ F → ∃ vs, loopL n F ⟨srcQ l, us, [], 0, 0⟩ = ⟨[], us ++ vs, [], 0, 0⟩ ∧ QT vs l
 | [], us, F, _, hF => by
   obtain ⟨F, rfl⟩ : ∃ g, F = g + 1 := ⟨F - 1, by omega⟩
   refine ⟨[], ?_, rfl⟩
   rw [List.append_nil]
   rfl
 | t :: l, us, F, hu, hF => by
   simp only [List.length_cons] at hF
   obtain ⟨F, rfl⟩ : ∃ g, F = g + 1 := ⟨F - 1, by omega⟩
   obtain ⟨p, hp⟩ := tokenL_q n t (srcQ l) us (srcQ_bhd l) hu
   obtain ⟨vs, h1, h2⟩ := loop_q n l (us ++ [⟨1, BA (quoteL t), p, ⟨#[]⟩, false⟩]) F (fun u h => by
    rcases List.mem_append.1 h with h | h
    ·exact hu u h
    ·rw [List.mem_singleton.1 h]
     exact quote_few t) (by omega)
   refine ⟨⟨1, BA (quoteL t), p, ⟨#[]⟩, false⟩ :: vs, ?_, ?_⟩
   ·rw [loopL, if_pos rfl]
    have hs : skL ((srcQ (t :: l)).length + 1) (srcQ (t :: l)) = quoteL t ++ srcQ l := by
     rw [srcQ_cons, skL_cons, if_pos (by decide), show quoteL t ++ srcQ l = 39 :: (qBody t ++ 39 :: srcQ l) by simp [quoteL], show (32 :: 39 :: (qBody t ++ 39 :: srcQ l)).length = (qBody t ++ 39 :: srcQ l).length + 1 + 1 by simp, skL_cons, if_neg (by decide), if_neg (by rintro ⟨e, _⟩; revert e; decide), if_neg (by decide)]
    simp only
    rw [hs, if_neg (by simp [quoteL]), hp, h1, List.append_assoc]
    rfl
   ·unfold QT at h2 ⊢
    rw [List.map_cons, List.map_cons, h2]
theorem lexL_q {l : List (List UInt8)} (h : ∀ t ∈ l, t.length ≤ 40) (hl : l.length ≤ 20) : ∃ vs, lexL (srcQ l) = (vs, 0, 0) ∧ QT vs l := by
 have hlen := srcQ_len h
 have hle : l.length ≤ (srcQ l).length := by
  clear hlen h hl
  induction l with
  | nil => simp
  | cons t l ih => rw [srcQ_cons]; simp; omega
 obtain ⟨vs, h1, h2⟩ := loop_q (srcQ l).length l [] ((srcQ l).length + 1) (fun u h => by cases h) (by omega)
 refine ⟨vs, ?_, h2⟩
 unfold lexL
 rw [if_neg (by omega)]
 simp only
 rw [h1]
 rfl
theorem QT.nil {l : List (List UInt8)} (h : QT [] l) : l = [] := by
 cases l with
 | nil => rfl
 | cons t l => cases h
theorem QT.cons {v : Tok} {vs : List Tok} {l : List (List UInt8)} (h : QT (v :: vs) l) : ∃ t r, l = t :: r ∧ v.kind = 1 ∧ v.text = BA (quoteL t) ∧ QT vs r := by
 cases l with
 | nil => cases h
 | cons t r =>
   unfold QT at h
   rw [List.map_cons, List.map_cons] at h
   injection h with h1 h2
   injection h1 with h3 h4
   exact ⟨t, r, rfl, h3, h4, h2⟩
namespace Pz
/-- No text that begins otherwise than with a quote is seen there. -/
theorem sees_q {s : Pz} {t : List UInt8} (h : s.next.text = BA (quoteL t)) {L : List ByteArray} (hL : L.all (fun x => x.data.toList.head? != some 39) = true) : s.sees L = false := by
 unfold sees
 rw [Bool.eq_false_iff]
 intro e
 obtain ⟨x, hx, h2⟩ := List.any_eq_true.1 e
 have h3 := List.all_eq_true.1 hL x hx
 have h4 : s.next.text = x := of_decide_eq_true h2
 rw [← h4, h] at h3
 revert h3
 show (some (39 : UInt8) != some 39) = true → False
 decide
theorem letN_q (t : List UInt8) : letN (quoteL t) = [] := by
 unfold letN
 rw [show frontN (quoteL t) = 0 from rfl]
 rfl
theorem isName_q (t : List UInt8) : isName (quoteL t) = false := by
 unfold isName
 rw [show frontN (quoteL t) = 0 from rfl]
 simp [quoteL]
theorem next_cons {s : Pz} {v : Tok} {vs : List Tok} (h : s.toks = v :: vs) : s.next = v := by
 unfold next
 rw [h]
 rfl
theorem simple_q : ∀ (vs : List Tok) (l : List (List UInt8)) (n : Nat) (c : Smp) (s : Pz), QT vs l → s.toks = vs → (∀ t ∈ l, t.length ≤ 300) → vs.length ≤ n → simpleN n c s = ({ c with words := c.words ++ l.map (fun t => [litP t true]) }, { s with toks := [] })
 | [], l, n, c, s, hq, hs, _, _ => by
   rw [hq.nil]
   have e : s = { s with toks := [] } := by
    obtain ⟨a, b1, c1, d, e, f, g⟩ := s
    simp only at hs
    rw [hs]
   have e2 : ({ c with words := c.words ++ ([] : List (List UInt8)).map (fun t => [litP t true]) } : Smp) = c := by simp
   rw [e2, ← e]
   cases n with
   | zero => rfl
   | succ n =>
     rw [simpleN]
     have hn : s.next = tok0 := by
      unfold next
      rw [hs]
      rfl
     rw [if_neg (by unfold seesRedir sees; rw [hn]; decide), if_neg (by rw [hn]; rw [show letN tok0.text.data.toList = [] by decide]; simp), if_neg (by unfold seesWord; rw [hn]; decide)]
 | v :: vs, l, n, c, s, hq, hs, hl, hn => by
   obtain ⟨t, r, rfl, hk, ht, hq2⟩ := hq.cons
   obtain ⟨n, rfl⟩ : ∃ m, n = m + 1 := ⟨n - 1, by simp at hn; omega⟩
   have hx := next_cons hs
   have htx : s.next.text = BA (quoteL t) := by rw [hx, ht]
   have hw : s.word = ([litP t true], s.take) := by
    have h1 : s.seesWord = true := by unfold seesWord; rw [hx, hk]; rfl
    unfold word wantWord
    rw [h1]
    simp only [if_true]
    unfold parts
    rw [htx, show (BA (quoteL t)).data.toList = quoteL t by simp, quote_word t (hl t (by simp))]
    rfl
   rw [simpleN, if_neg (by
    unfold seesRedir
    rw [sees_q htx (by decide), hx, hk]
    decide), if_neg (by rw [htx, show (BA (quoteL t)).data.toList = quoteL t by simp, letN_q]; simp), if_pos (by unfold seesWord; rw [hx, hk]; rfl), hw]
   simp only
   rw [simple_q vs r n _ s.take hq2 (by unfold take; rw [hs]; rfl) (fun x hx => hl x (by simp [hx])) (by simp at hn; omega)]
   simp
   exact ⟨rfl, rfl, rfl, rfl, rfl, rfl⟩
/-- The end of a text without an error. -/
def e1 (d : Nat) (z : Int) : Pz := ⟨[], d, z, 0, 0, 0, 0⟩
theorem e1_sees (d : Nat) (z : Int) {L : List ByteArray} (h : L.any (fun t => decide (tok0.text = t)) = false) : (e1 d z).sees L = false := h
theorem line_q {vs : List Tok} {l : List (List UInt8)} (h2 : QT vs l) (h0 : l ≠ []) (hl : ∀ t ∈ l, t.length ≤ 300) (lst : Rdl) (d : Nat) (z : Int) : line lst ⟨vs, d, z, 0, 0, 0, 0⟩ = (.mk 1 false [] (l.map fun t => [litP t true]) [] [] [] false [], e1 d z) ∧ ∀ L : List ByteArray, L.all (fun x => x.data.toList.head? != some 39) = true → (⟨vs, d, z, 0, 0, 0, 0⟩ : Pz).sees L = false := by
 cases vs with
 | nil => exact absurd h2.nil h0
 | cons v vs =>
   obtain ⟨t, r, rfl, hk, ht, hq2⟩ := h2.cons
   obtain ⟨s, hs⟩ : ∃ s : Pz, s = ⟨v :: vs, d, z, 0, 0, 0, 0⟩ := ⟨_, rfl⟩
   have htoks : s.toks = v :: vs := by rw [hs]
   have hx := next_cons htoks
   have htx : s.next.text = BA (quoteL t) := by rw [hx, ht]
   have hse : ∀ L : List ByteArray, L.all (fun x => x.data.toList.head? != some 39) = true → s.sees L = false := fun L hL => sees_q htx hL
   have hne : ∀ x : ByteArray, (x.data.toList.head? != some 39) = true → s.next.text ≠ x := fun x hx e => by
    have := hse [x] (by rw [List.all_cons, hx]; rfl)
    unfold sees at this
    rw [List.any_cons, e, decide_eq_true rfl] at this
    cases this
   rw [← hs]
   refine ⟨?_, hse⟩
   have hsw : s.seesWord = true := by unfold seesWord; rw [hx, hk]; rfl
   have hsi : s.simple = (.mk 1 false [] ((t :: r).map fun t => [litP t true]) [] [] [] false [], e1 d z) := by
    unfold simple
    rw [if_pos (by rw [hsw]; rfl), simple_q (v :: vs) (t :: r) s.toks.length ⟨[], [], []⟩ s h2 htoks hl (by rw [htoks]; exact Nat.le_refl _), hs]
    rfl
   have hb : beginOf lst s.next.text = none := by
    unfold beginOf
    rw [if_neg (hne _ (by decide)), if_neg (hne _ (by decide)), if_neg (hne _ (by decide)), if_neg (hne _ (by decide)), if_neg (hne _ (by decide)), if_neg (hne _ (by decide)), if_neg (hne _ (by decide))]
   have hc : s.command lst = (.mk 1 false [] ((t :: r).map fun t => [litP t true]) [] [] [] false [], e1 d z) := by
    unfold command
    rw [if_neg (by rw [hb]; decide), if_neg (by rw [hse _ (by decide)]; decide), if_neg (by
     unfold seesFunc
     rw [htx, show (BA (quoteL t)).data.toList = quoteL t by simp, isName_q]
     simp), hsi]
   have hp : s.pipeline lst = (.mk 1 false [] ((t :: r).map fun t => [litP t true]) [] [] [] false [], e1 d z) := by
    unfold pipeline
    rw [show s.skips kNot = s by unfold skips; rw [if_neg (by rw [hse _ (by decide)]; decide)], hse _ (by decide), hc]
    rfl
   have ha : s.andOr lst = (.mk 1 false [] ((t :: r).map fun t => [litP t true]) [] [] [] false [], e1 d z) := by
    unfold andOr
    rw [hp]
    rfl
   unfold line
   rw [ha]
   simp only
   rw [show (e1 d z).toks.length + 1 = 0 + 1 from rfl, lineN_succ, if_neg (by rw [e1_sees d z (by decide)]; decide)]
   rfl
end Pz
open Pz
/-- Texts in quotes are a simple command of just these. -/
theorem prsL_q {l : List (List UInt8)} (h0 : l ≠ []) (h : ∀ t ∈ l, t.length ≤ 40) (hl : l.length ≤ 20) : prsL (srcQ l) = ([.mk 1 false [] (l.map fun t => [litP t true]) [] [] [] false []], 0, 0) := by
 obtain ⟨vs, h1, h2⟩ := lexL_q h hl
 obtain ⟨g1, g2⟩ := line_q h2 h0 (fun t ht => Nat.le_trans (h t ht) (by decide)) (Pz.list (vs.length + 1)) 0 ((srcQ l).length : Int)
 unfold prsL
 rw [h1]
 simp only
 obtain ⟨s, hs⟩ : ∃ s : Pz, s = ⟨vs, 0, ((srcQ l).length : Int), 0, 0, 0, 0⟩ := ⟨_, rfl⟩
 rw [← hs] at g1 g2 ⊢
 have hm : s.more = true := by
  unfold more
  rw [hs]
  cases vs with
  | nil => exact absurd h2.nil h0
  | cons v vs => rfl
 have hg : s.gap = s := by
  unfold gap
  cases hn : s.toks.length with
  | zero => rfl
  | succ n => rw [gapN, if_neg (by rw [g2 _ (by decide)]; decide)]
 have hL : linesN (Pz.list (vs.length + 1)) (vs.length + 1) s = ([.mk 1 false [] (l.map fun t => [litP t true]) [] [] [] false []], e1 0 ((srcQ l).length : Int)) := by
  rw [linesN, if_pos hm, g1]
  cases hv : vs.length with
  | zero => rfl
  | succ n => rfl
 rw [hg, hL]
 rfl

end Go.Proofs.YtnamineofpeahaaGreatDoor

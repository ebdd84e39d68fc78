/-
  A text in place between other words: what the pure lexer makes of it.
-/
import Derived.Test.YtlmpdfeidjnmnaaDoorCut
namespace Go.Proofs.YtlmpdfeidjnmnaaDoor
open Go.RowKit

theorem sk_stop {f : Nat} {c : UInt8} {r : List UInt8} (h1 : blkB (c.toNat : Int) = false) (h2 : c ≠ 35) (h3 : ¬ (c = 92 ∧ r.head? = some 10)) : skL (f + 1) (c :: r) = c :: r := by
  rw [skL_cons, if_neg (by rw [h1]; decide), if_neg h3, if_neg h2]
theorem sk_blank {f : Nat} {r : List UInt8} : skL (f + 1) (32 :: r) = skL f r := by rw [skL_cons, if_pos (by decide)]
theorem loop_stop {n F : Nat} {c : UInt8} {R : List UInt8} {ts : List Tok} {ws : List Wt} (h1 : blkB (c.toNat : Int) = false) (h2 : c ≠ 35) (h3 : ¬ (c = 92 ∧ R.head? = some 10)) : loopL n (F + 1) ⟨c :: R, ts, ws, 0, 0⟩ = loopL n F (tokenL n ⟨c :: R, ts, ws, 0, 0⟩) := by
  have e : skL ((c :: R).length + 1) (c :: R) = c :: R := sk_stop h1 h2 h3
  rw [loopL_zero (st := ⟨c :: R, ts, ws, 0, 0⟩) rfl (by rw [e]; simp), e]
theorem loop_blank {n F : Nat} {c : UInt8} {R : List UInt8} {ts : List Tok} {ws : List Wt} (h1 : blkB (c.toNat : Int) = false) (h2 : c ≠ 35) (h3 : ¬ (c = 92 ∧ R.head? = some 10)) : loopL n (F + 1) ⟨32 :: c :: R, ts, ws, 0, 0⟩ = loopL n F (tokenL n ⟨c :: R, ts, ws, 0, 0⟩) := by
  have e : skL ((32 :: c :: R).length + 1) (32 :: c :: R) = c :: R := by
    rw [sk_blank]
    exact sk_stop h1 h2 h3
  rw [loopL_zero (st := ⟨32 :: c :: R, ts, ws, 0, 0⟩) rfl (by rw [e]; simp), e]
theorem tok_word {n : Nat} {c : UInt8} {R r word : List UInt8} {ts : List Tok} {ws : List Wt} (h10 : c ≠ 10) (hop : opL (c :: R) = []) (hw : wordL (R.length + 1 + 1) (c :: R) = .ok r) (hword : (c :: R).take (R.length + 1 - r.length) = word) (hd : (digsB word && (r.head? == some 60 || r.head? == some 62)) = false) : tokenL n ⟨c :: R, ts, ws, 0, 0⟩ = (awaitL ⟨r, ts, ws, 0, 0⟩ word).add 1 word ((n - (R.length + 1) : Nat) : Int) := by
  unfold tokenL
  simp only
  rw [if_neg h10, if_pos hop]
  unfold wordTok
  simp only [List.length_cons]
  rw [hw]
  simp only
  rw [hword, hd, if_neg (by decide)]
theorem tok_io {n : Nat} {c : UInt8} {R r word : List UInt8} {ts : List Tok} {ws : List Wt} (h10 : c ≠ 10) (hop : opL (c :: R) = []) (hw : wordL (R.length + 1 + 1) (c :: R) = .ok r) (hword : (c :: R).take (R.length + 1 - r.length) = word) (hd : (digsB word && (r.head? == some 60 || r.head? == some 62)) = true) : tokenL n ⟨c :: R, ts, ws, 0, 0⟩ = (⟨r, ts, ws, 0, 0⟩ : LS).add 4 word ((n - (R.length + 1) : Nat) : Int) := by
  unfold tokenL
  simp only
  rw [if_neg h10, if_pos hop]
  unfold wordTok
  simp only [List.length_cons]
  rw [hw]
  simp only
  rw [hword, hd, if_pos rfl]
theorem tok_op {n : Nat} {c : UInt8} {R o : List UInt8} {ts : List Tok} {ws : List Wt} (h10 : c ≠ 10) (hop : opL (c :: R) = o) (ho : o ≠ []) : tokenL n ⟨c :: R, ts, ws, 0, 0⟩ = (⟨(c :: R).drop o.length, ts, ws, 0, 0⟩ : LS).add 2 o ((n - (R.length + 1) : Nat) : Int) := by
  unfold tokenL
  simp only
  rw [if_neg h10, hop, if_neg ho]

/-- Lines, a byte 10 behind each. -/
def bodyL (ls : List (List UInt8)) : List UInt8 := ls.flatMap (fun l => l ++ [10])
theorem bodyL_snoc (ls : List (List UInt8)) (l : List UInt8) : bodyL (ls ++ [l]) = bodyL ls ++ l ++ [10] := by simp [bodyL]
theorem tw10 {l r : List UInt8} (h : ∀ c ∈ l, c ≠ 10) : (l ++ 10 :: r).takeWhile (fun x => x != 10) = l ∧ (l ++ 10 :: r).dropWhile (fun x => x != 10) = 10 :: r := by
  induction l with
  | nil => exact ⟨rfl, rfl⟩
  | cons c l ih =>
    have hc : (c != 10) = true := by simpa using h c (by simp)
    obtain ⟨h1, h2⟩ := ih (fun x hx => h x (by simp [hx]))
    rw [List.cons_append, List.takeWhile_cons, List.dropWhile_cons, if_pos hc, if_pos hc, h1, h2]
    exact ⟨rfl, rfl⟩
theorem take_lines : ∀ (ls : List (List UInt8)) (acc : List UInt8) (f : Nat), (∀ l ∈ ls, (∀ c ∈ l, c ≠ 10) ∧ l ≠ [69, 78, 68]) → ls.length + 1 ≤ f → takeL f false [69, 78, 68] (bodyL ls ++ [69, 78, 68, 10, 99]) acc = some (acc ++ bodyL ls, [99])
  | [], acc, f, _, hf => by
    obtain ⟨f, rfl⟩ : ∃ g, f = g + 1 := ⟨f - 1, by simp at hf; omega⟩
    rw [show bodyL [] ++ [69, 78, 68, 10, 99] = [69, 78, 68] ++ 10 :: [99] from rfl, takeL_hit (L := [69, 78, 68]) (by simp) rfl, if_pos rfl]
    simp [bodyL]
  | l :: ls, acc, f, h, hf => by
    obtain ⟨f, rfl⟩ : ∃ g, f = g + 1 := ⟨f - 1, by simp at hf; omega⟩
    obtain ⟨h1, h2⟩ := h l (by simp)
    have e : bodyL (l :: ls) ++ [69, 78, 68, 10, 99] = l ++ 10 :: (bodyL ls ++ [69, 78, 68, 10, 99]) := by simp [bodyL]
    obtain ⟨t1, t2⟩ := tw10 (r := bodyL ls ++ [69, 78, 68, 10, 99]) h1
    rw [e, takeL_hit (L := l) (by simp) (by rw [t1]; rfl), if_neg h2, t2]
    have := take_lines ls (acc ++ l ++ [10]) f (fun x hx => h x (by simp [hx])) (by simp at hf; omega)
    rw [List.drop_succ_cons, List.drop_zero, this]
    simp [bodyL]
theorem bodyL_len (ls : List (List UInt8)) : ls.length ≤ (bodyL ls).length := by
  induction ls with
  | nil => exact Nat.le_refl _
  | cons l ls ih =>
    have : bodyL (l :: ls) = l ++ 10 :: bodyL ls := by simp [bodyL]
    rw [this, List.length_append, List.length_cons, List.length_cons]
    omega

/-- Six tokens, wherever they stand. -/
def hereT (body : List UInt8) (p : Nat → Int) : List Tok := [⟨1, BA [97], p 0, ⟨#[]⟩, false⟩, ⟨2, BA [60, 60], p 1, BA body, true⟩, ⟨1, BA [39, 69, 78, 68, 39], p 2, ⟨#[]⟩, false⟩, ⟨1, BA [98], p 3, ⟨#[]⟩, false⟩, ⟨3, BA [10], p 4, ⟨#[]⟩, false⟩, ⟨1, BA [99], p 5, ⟨#[]⟩, false⟩]
theorem word_quote (X : List UInt8) : wordL ([69, 78, 68, 39, 32, 98, 10].length + X.length + 1 + 1) (39 :: 69 :: 78 :: 68 :: 39 :: 32 :: 98 :: 10 :: X) = .ok (32 :: 98 :: 10 :: X) := by
  rw [wordL_cons, if_neg (by decide), show 3 * ((69 :: 78 :: 68 :: 39 :: 32 :: 98 :: 10 :: X).length + 1) + 3 = (3 * ((69 :: 78 :: 68 :: 39 :: 32 :: 98 :: 10 :: X).length + 1) + 2) + 1 from rfl, thg_succ, if_neg (by decide), if_neg (by decide), if_pos rfl, if_neg (by decide)]
  show wordL _ (32 :: 98 :: 10 :: X) = _
  exact wordL_stop (.inr ⟨32, _, rfl, by decide⟩) (by simp; omega)
theorem word_one (c d : UInt8) (R : List UInt8) (f : Nat) (hf : R.length + 2 ≤ f) (hc : plainB c = true) (hm : metB (c.toNat : Int) = false) (hd : metB (d.toNat : Int) = true) (h40 : d ≠ 40) : wordL f (c :: d :: R) = .ok (d :: R) := by
  obtain ⟨f, rfl⟩ : ∃ g, f = g + 1 := ⟨f - 1, by omega⟩
  rw [wordL_cons, if_neg (by rw [hm]; decide), show 3 * ((d :: R).length + 1) + 3 = (3 * ((d :: R).length + 1) + 2) + 1 from rfl, thg_plain hc ⟨fun e => by
    have e : d = 123 := by simpa using e
    rw [e] at hd
    exact absurd hd (by decide), fun e => h40 (by simpa using e)⟩]
  exact wordL_stop (.inr ⟨d, R, rfl, hd⟩) (by simp; omega)

theorem lexL_here (ls : List (List UInt8)) (hls : ∀ l ∈ ls, (∀ c ∈ l, c ≠ 10) ∧ l ≠ [69, 78, 68]) (hl : (bodyL ls).length ≤ 2000) :
    ∃ p, lexL ([97, 32, 60, 60, 39, 69, 78, 68, 39, 32, 98, 10] ++ bodyL ls ++ [69, 78, 68, 10, 99]) = (hereT (bodyL ls) p, 0, 0) := by
  obtain ⟨X, hX⟩ : ∃ X, X = bodyL ls ++ [69, 78, 68, 10, 99] := ⟨_, rfl⟩
  have hXl : X.length = (bodyL ls).length + 5 := by rw [hX, List.length_append]; rfl
  have hn : ([97, 32, 60, 60, 39, 69, 78, 68, 39, 32, 98, 10] ++ bodyL ls ++ [69, 78, 68, 10, 99] : List UInt8) = 97 :: 32 :: 60 :: 60 :: 39 :: 69 :: 78 :: 68 :: 39 :: 32 :: 98 :: 10 :: X := by rw [hX]; simp
  obtain ⟨n, hnn⟩ : ∃ n, n = (97 :: 32 :: 60 :: 60 :: 39 :: 69 :: 78 :: 68 :: 39 :: 32 :: 98 :: 10 :: X).length := ⟨_, rfl⟩
  have hnl : n = X.length + 12 := by rw [hnn]; rfl
  have hT := take_lines ls [] (X.length + 1) hls (by have := bodyL_len ls; omega)
  rw [← hX, List.nil_append] at hT
  -- one token after the other
  have s1 : ∀ F, loopL n (F + 1) ⟨97 :: 32 :: 60 :: 60 :: 39 :: 69 :: 78 :: 68 :: 39 :: 32 :: 98 :: 10 :: X, [], [], 0, 0⟩ = loopL n F ⟨32 :: 60 :: 60 :: 39 :: 69 :: 78 :: 68 :: 39 :: 32 :: 98 :: 10 :: X, [⟨1, BA [97], ((n - (X.length + 12) : Nat) : Int), ⟨#[]⟩, false⟩], [], 0, 0⟩ := fun F => by
    rw [loop_stop (by decide) (by decide) (fun h => absurd h.1 (by decide)), tok_word (r := 32 :: 60 :: 60 :: 39 :: 69 :: 78 :: 68 :: 39 :: 32 :: 98 :: 10 :: X) (word := [97]) (by decide) rfl (word_one 97 32 _ _ (by simp) (by decide) (by decide) (by decide) (by decide)) (by
      have e : (32 :: 60 :: 60 :: 39 :: 69 :: 78 :: 68 :: 39 :: 32 :: 98 :: 10 :: X).length + 1 - (32 :: 60 :: 60 :: 39 :: 69 :: 78 :: 68 :: 39 :: 32 :: 98 :: 10 :: X).length = 1 := by omega
      rw [e]; rfl) (by rfl)]
    rfl
  have s2 : ∀ F ts, loopL n (F + 1) ⟨32 :: 60 :: 60 :: 39 :: 69 :: 78 :: 68 :: 39 :: 32 :: 98 :: 10 :: X, ts, [], 0, 0⟩ = loopL n F ⟨39 :: 69 :: 78 :: 68 :: 39 :: 32 :: 98 :: 10 :: X, ts ++ [⟨2, BA [60, 60], ((n - (X.length + 10) : Nat) : Int), ⟨#[]⟩, false⟩], [], 0, 0⟩ := fun F ts => by
    rw [loop_blank (by decide) (by decide) (fun h => absurd h.1 (by decide)), tok_op (o := [60, 60]) (by decide) rfl (by simp)]
    rfl
  have s3 : ∀ F t0 p, loopL n (F + 1) ⟨39 :: 69 :: 78 :: 68 :: 39 :: 32 :: 98 :: 10 :: X, [t0, ⟨2, BA [60, 60], p, ⟨#[]⟩, false⟩], [], 0, 0⟩ = loopL n F ⟨32 :: 98 :: 10 :: X, [t0, ⟨2, BA [60, 60], p, ⟨#[]⟩, true⟩, ⟨1, BA [39, 69, 78, 68, 39], ((n - (X.length + 8) : Nat) : Int), ⟨#[]⟩, false⟩], [⟨1, [69, 78, 68], false⟩], 0, 0⟩ := fun F t0 p => by
    rw [loop_stop (by decide) (by decide) (fun h => absurd h.1 (by decide)), tok_word (r := 32 :: 98 :: 10 :: X) (word := [39, 69, 78, 68, 39]) (by decide) rfl (by
      have := word_quote X
      rwa [show [69, 78, 68, 39, 32, 98, 10].length + X.length + 1 + 1 = (69 :: 78 :: 68 :: 39 :: 32 :: 98 :: 10 :: X).length + 1 + 1 by simp; omega] at this) (by
      have e : (69 :: 78 :: 68 :: 39 :: 32 :: 98 :: 10 :: X).length + 1 - (32 :: 98 :: 10 :: X).length = 5 := by simp
      rw [e]; rfl) (by rfl)]
    rfl
  have s4 : ∀ F t0 t1 p ws, loopL n (F + 1) ⟨32 :: 98 :: 10 :: X, [t0, t1, ⟨1, BA [39, 69, 78, 68, 39], p, ⟨#[]⟩, false⟩], ws, 0, 0⟩ = loopL n F ⟨10 :: X, [t0, t1, ⟨1, BA [39, 69, 78, 68, 39], p, ⟨#[]⟩, false⟩, ⟨1, BA [98], ((n - (X.length + 2) : Nat) : Int), ⟨#[]⟩, false⟩], ws, 0, 0⟩ := fun F t0 t1 p ws => by
    rw [loop_blank (by decide) (by decide) (fun h => absurd h.1 (by decide)), tok_word (r := 10 :: X) (word := [98]) (by decide) rfl (word_one 98 10 _ _ (by simp) (by decide) (by decide) (by decide) (by decide)) (by
      have e : (10 :: X).length + 1 - (10 :: X).length = 1 := by omega
      rw [e]; rfl) (by rfl)]
    rfl
  have s5 : ∀ F t0 t2 t3 p, loopL n (F + 1) ⟨10 :: X, [t0, ⟨2, BA [60, 60], p, ⟨#[]⟩, true⟩, t2, t3], [⟨1, [69, 78, 68], false⟩], 0, 0⟩ = loopL n F ⟨[99], [t0, ⟨2, BA [60, 60], p, BA (bodyL ls), true⟩, t2, t3, ⟨3, BA [10], ((n - (X.length + 1) : Nat) : Int), ⟨#[]⟩, false⟩], [], 0, 0⟩ := fun F t0 t2 t3 p => by
    rw [loop_stop (by decide) (by decide) (fun h => absurd h.1 (by decide))]
    unfold tokenL
    simp only
    rw [if_pos trivial]
    unfold newlineL
    simp only [List.foldl_cons, List.foldl_nil]
    unfold takeUpL
    simp only [if_true, hT]
    rfl
  have s6 : ∀ F ts, (∀ t, ts.getLast? = some t → t.text = BA [10]) → loopL n (F + 2) ⟨[99], ts, [], 0, 0⟩ = ⟨[], ts ++ [⟨1, BA [99], ((n - 1 : Nat) : Int), ⟨#[]⟩, false⟩], [], 0, 0⟩ := fun F ts hts => by
    have haw : ∀ word, awaitL ⟨[], ts, [], 0, 0⟩ word = ⟨[], ts, [], 0, 0⟩ := fun word => by
      unfold awaitL
      cases hg : ts.getLast? with
      | none => simp only
      | some t =>
        simp only
        rw [hts t hg, if_neg (by decide)]
    rw [loop_stop (by decide) (by decide) (fun h => absurd h.1 (by decide)), tok_word (r := []) (word := [99]) (by decide) rfl (by
      rw [wordL_cons, if_neg (by decide), show 3 * (([] : List UInt8).length + 1) + 3 = (3 * (([] : List UInt8).length + 1) + 2) + 1 from rfl, thg_plain (by decide) ⟨by decide, by decide⟩]
      exact wordL_nil _) rfl (by decide), haw]
    rfl
  rw [hn]
  refine ⟨fun i => match i with
    | 0 => ((n - (X.length + 12) : Nat) : Int)
    | 1 => ((n - (X.length + 10) : Nat) : Int)
    | 2 => ((n - (X.length + 8) : Nat) : Int)
    | 3 => ((n - (X.length + 2) : Nat) : Int)
    | 4 => ((n - (X.length + 1) : Nat) : Int)
    | _ => ((n - 1 : Nat) : Int), ?_⟩
  have hall : loopL n (n + 1) ⟨97 :: 32 :: 60 :: 60 :: 39 :: 69 :: 78 :: 68 :: 39 :: 32 :: 98 :: 10 :: X, [], [], 0, 0⟩ = ⟨[], hereT (bodyL ls) (fun i => match i with
    | 0 => ((n - (X.length + 12) : Nat) : Int)
    | 1 => ((n - (X.length + 10) : Nat) : Int)
    | 2 => ((n - (X.length + 8) : Nat) : Int)
    | 3 => ((n - (X.length + 2) : Nat) : Int)
    | 4 => ((n - (X.length + 1) : Nat) : Int)
    | _ => ((n - 1 : Nat) : Int)), [], 0, 0⟩ := by
    rw [show n + 1 = X.length + 6 + 2 + 1 + 1 + 1 + 1 + 1 by omega, s1, s2, List.singleton_append, s3, s4, s5, s6 _ _ (fun t ht => by simp at ht; rw [← ht])]
    rfl
  unfold lexL
  rw [← hnn, if_neg (by omega), hall]

end Go.Proofs.YtlmpdfeidjnmnaaDoor

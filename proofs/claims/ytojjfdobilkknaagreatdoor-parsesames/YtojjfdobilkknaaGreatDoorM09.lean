/- Tokens stand in the text at their places, in order.; Names: Alpha, Front, of the program and of the document.; Words, plainly: parts, and what a text is read as. -/
import Derived.Test.YtojjfdobilkknaaGreatDoorM08
import Derived.Test.YtojjfdobilkknaaGreatDoorM02
import Derived.Test.YtojjfdobilkknaaGreatDoorM01
set_option maxHeartbeats 1000000
namespace Go.Proofs.YtojjfdobilkknaaGreatDoor
open Go.RowKit
def StandsAt (l : List UInt8) (e : Nat) (t : Int × ByteArray) : Prop := ∃ p : Nat, t.1 = (p : Int) ∧ e ≤ p ∧ t.2.data.toList ≠ [] ∧ p + t.2.size ≤ l.length ∧ (l.drop p).take t.2.size = t.2.data.toList
def endOf (t : Int × ByteArray) : Nat := t.1.toNat + t.2.size
def Stands (l : List UInt8) : Nat → List (Int × ByteArray) → Prop
 | _, [] => True
 | e, t :: ts => StandsAt l e t ∧ Stands l (endOf t) ts
def lastEnd : Nat → List (Int × ByteArray) → Nat
 | e, [] => e
 | _, t :: ts => lastEnd (endOf t) ts
theorem stands_snoc {l : List UInt8} {t : Int × ByteArray} : ∀ (ts : List (Int × ByteArray)) (e : Nat), Stands l e ts → StandsAt l (lastEnd e ts) t → Stands l e (ts ++ [t])
 | [], _, _, h => ⟨h, trivial⟩
 | x :: ts, _, h, ht => ⟨h.1, stands_snoc ts (endOf x) h.2 ht⟩
theorem lastEnd_snoc (t : Int × ByteArray) : ∀ (ts : List (Int × ByteArray)) (e : Nat), lastEnd e (ts ++ [t]) = endOf t
 | [], _ => rfl
 | x :: ts, _ => lastEnd_snoc t ts (endOf x)
def pts (ts : List Tok) : List (Int × ByteArray) := ts.map (fun t => (t.pos, t.text))
theorem pts_modify (ts : List Tok) (i : Nat) (g : Tok → Tok) (hg : ∀ t, (g t).pos = t.pos ∧ (g t).text = t.text) : pts (ts.modify i g) = pts ts := by
 unfold pts
 apply List.ext_getElem?
 intro j
 rw [List.getElem?_map, List.getElem?_map, List.getElem?_modify]
 by_cases h : i = j
 ·subst h
  cases ts[i]? with
  | none => rfl
  | some t => simp [(hg t).1, (hg t).2]
 ·cases ts[j]? with
  | none => rfl
  | some t => simp [h]
structure Good (l : List UInt8) (st : LS) : Prop where
 suf : st.flt = 0 → ∃ k, k ≤ l.length ∧ st.rest = l.drop k ∧ lastEnd 0 (pts st.toks) ≤ k
 std : Stands l 0 (pts st.toks)
 wt : ∀ x ∈ st.wait, x.tok < st.toks.length
 bad : st.flt ≠ 0 → 0 ≤ st.blm ∧ st.blm < l.length
 zero : st.flt = 0 → st.blm = 0
theorem stands_pos {l : List UInt8} : ∀ (ts : List (Int × ByteArray)) (e i : Nat) (t : Int × ByteArray), Stands l e ts → ts[i]? = some t → 0 ≤ t.1 ∧ t.1 < l.length
 | [], e, i, t, _, h => by simp at h
 | x :: ts, e, 0, t, h, hi => by
   simp at hi
   subst hi
   obtain ⟨p, h1, _, h3, h4, _⟩ := h.1
   have : 0 < x.2.size := by
    rw [← data_len]
    exact List.length_pos_iff.2 h3
   rw [h1]
   omega
 | x :: ts, e, i + 1, t, h, hi => stands_pos ts (endOf x) i t h.2 (by simpa using hi)
theorem Good.pos {l : List UInt8} {st : LS} (h : Good l st) {i : Nat} (hi : i < st.toks.length) : 0 ≤ st.posOf i ∧ st.posOf i < l.length := by
 have hp : (pts st.toks)[i]? = some ((st.toks[i]'hi).pos, (st.toks[i]'hi).text) := by
  unfold pts
  rw [List.getElem?_map, List.getElem?_eq_getElem hi]
  rfl
 have := stands_pos _ 0 i _ h.std hp
 unfold LS.posOf
 rw [List.getElem?_eq_getElem hi]
 exact this
theorem drop_suffix {l r : List UInt8} {k : Nat} (hk : k ≤ l.length) (h : r <:+ l.drop k) : ∃ j, k ≤ j ∧ j ≤ l.length ∧ r = l.drop j := by
 obtain ⟨t, ht⟩ := h
 have hl := congrArg List.length ht
 rw [List.length_append, List.length_drop] at hl
 refine ⟨k + t.length, by omega, by omega, ?_⟩
 rw [← List.drop_drop, ← ht, List.drop_left]
theorem takeL_suf : ∀ (f : Nat) (tabs : Bool) (en l acc b r : List UInt8), takeL f tabs en l acc = some (b, r) → r <:+ l
 | 0, _, _, _, _, _, _, h => by cases h
 | _ + 1, _, _, [], _, _, _, h => by cases h
 | f + 1, tabs, en, c :: l, acc, b, r, h => by
   have hd : ((List.dropWhile (fun x => x != 10) (c :: l)).drop 1) <:+ (c :: l) := (List.drop_suffix 1 _).trans (List.dropWhile_suffix _)
   rw [takeL_hit (L := if tabs then Lib.trimLeftB ((c :: l).takeWhile (fun x => x != 10)) 9 else (c :: l).takeWhile (fun x => x != 10)) (by simp) rfl] at h
   generalize (if tabs then Lib.trimLeftB ((c :: l).takeWhile (fun x => x != 10)) 9 else (c :: l).takeWhile (fun x => x != 10)) = L at h
   by_cases he : L = en
   ·rw [if_pos he] at h
    injection h with h
    injection h with h1 h2
    subst h2
    exact hd
   ·rw [if_neg he] at h
    exact (takeL_suf f tabs en _ _ b r h).trans hd
theorem takeUpL_good {l : List UInt8} {st : LS} {x : Wt} (h : Good l st) (hx : x.tok < st.toks.length) : Good l (takeUpL st x) := by
 unfold takeUpL
 split
 ·next hf =>
  split
  ·next body rest hT =>
   obtain ⟨k, hk, hr, he⟩ := h.suf hf
   have hs := takeL_suf _ _ _ _ _ _ _ hT
   rw [hr] at hs
   obtain ⟨j, h1, h2, h3⟩ := drop_suffix hk hs
   have hp : pts (st.toks.modify x.tok (fun t => { t with body := BA body })) = pts st.toks := pts_modify _ _ _ (fun t => ⟨rfl, rfl⟩)
   refine ⟨fun _ => ⟨j, h2, h3, ?_⟩, ?_, ?_, fun e => absurd hf e, h.zero⟩
   ·show lastEnd 0 (pts (st.toks.modify x.tok _)) ≤ j
    rw [hp]; omega
   ·show Stands l 0 (pts (st.toks.modify x.tok _))
    rw [hp]; exact h.std
   ·intro y hy
    show y.tok < (st.toks.modify x.tok _).length
    rw [List.length_modify]
    exact h.wt y hy
  ·have hp := h.pos hx
   unfold LS.fail
   rw [if_pos (show ({ st with rest := [] } : LS).flt = 0 from hf)]
   exact ⟨fun e => absurd (show (12 : Int) = 0 from e) (by decide), h.std, h.wt, fun _ => hp, fun e => absurd (show (12 : Int) = 0 from e) (by decide)⟩
 ·exact h
theorem foldl_good {l : List UInt8} (ws : List Wt) : ∀ st : LS, Good l st → (∀ x ∈ ws, x.tok < st.toks.length) → Good l (ws.foldl takeUpL st) := by
 induction ws with
 | nil => intro st h _; exact h
 | cons x ws ih =>
   intro st h hw
   rw [List.foldl_cons]
   exact ih _ (takeUpL_good h (hw x (by simp))) (fun y hy => by rw [takeUpL_len]; exact hw y (by simp [hy]))
theorem add_good {l : List UInt8} {st : LS} {p k : Nat} {kind : Int} {text : List UInt8} (h : Good l st) (hf : st.flt = 0) (h0 : text ≠ []) (hp : lastEnd 0 (pts st.toks) ≤ p) (ht : (l.drop p).take text.length = text) (hk : p + text.length ≤ k) (hkl : k ≤ l.length) (hr : st.rest = l.drop k) : Good l (st.add kind text (p : Int)) := by
 have hpt : pts (st.add kind text (p : Int)).toks = pts st.toks ++ [((p : Int), BA text)] := by
  unfold pts LS.add
  rw [List.map_append]
  rfl
 have hst : StandsAt l (lastEnd 0 (pts st.toks)) ((p : Int), BA text) := ⟨p, rfl, hp, h0, by rw [BA_size]; omega, by rw [BA_size, BA_list]; exact ht⟩
 refine ⟨fun _ => ⟨k, hkl, hr, ?_⟩, ?_, ?_, fun e => absurd hf e, h.zero⟩
 ·rw [hpt, lastEnd_snoc]
  unfold endOf
  simp only [Int.toNat_natCast, BA_size]
  exact hk
 ·rw [hpt]
  exact stands_snoc _ _ h.std hst
 ·intro x hx
  have := h.wt x hx
  show x.tok < (st.toks ++ [_]).length
  rw [List.length_append]
  omega
theorem errb_all : ∀ f : Nat, (∀ l wh d e b, thg f l wh d = .err e b → b ≠ []) ∧ (∀ l fr c wh d e b, fr ≠ [] → cls f l fr c wh d = .err e b → b ≠ []) ∧ (∀ l fr c wh d e b, fr ≠ [] → lop f l fr c wh d = .err e b → b ≠ [])
 | 0 => ⟨fun l wh d e b h => (by rw [thg] at h; cases h), fun l fr c wh d e b _ h => (by rw [cls] at h; cases h), fun l fr c wh d e b _ h => (by rw [lop] at h; cases h)⟩
 | f + 1 => by
   obtain ⟨iT, iC, iL⟩ := errb_all f
   refine ⟨fun l wh d e b h => ?_, fun l fr c wh d e b hfr h => ?_, fun l fr c wh d e b hfr h => ?_⟩
   ·cases l with
    | nil => rw [thg] at h; cases h
    | cons x l =>
      rw [thg_succ] at h
      split at h
      ·cases h
      split at h
      ·split at h
       ·cases h
       ·exact iC _ _ _ _ _ _ _ (by simp) h
      split at h
      ·split at h
       ·cases h
       ·split at h
        ·injection h with h1 h2; rw [← h2]; simp
        ·cases h
      split at h
      ·split at h
       ·exact iC _ _ _ _ _ _ _ (by simp) h
       ·split at h
        ·next hh => exact iC _ _ _ _ _ _ _ (fun e => by rw [e] at hh; cases hh) h
        ·cases h
      split at h
      ·split at h
       ·exact iC _ _ _ _ _ _ _ (by simp) h
       ·cases h
      split at h
      ·injection h with h1 h2; rw [← h2]; simp
      ·cases h
   ·rw [cls_succ] at h
    split at h
    ·injection h with h1 h2; rw [← h2]; exact hfr
    ·exact iL _ _ _ _ _ _ _ hfr h
   ·cases l with
    | nil => rw [lop_nil] at h; injection h with h1 h2; rw [← h2]; exact hfr
    | cons x l =>
      rw [lop_succ] at h
      split at h
      ·cases h
      ·split at h
       ·next x' b' hx => injection h with h1 h2; rw [← h2]; exact iT _ _ _ _ _ hx
       ·exact iL _ _ _ _ _ _ _ hfr h
theorem wordL_errb : ∀ (f : Nat) {l b : List UInt8} {e : Int}, wordL f l = .err e b → b ≠ [] ∧ b.length ≤ l.length
 | 0, l, b, e, h => by cases h
 | f + 1, [], b, e, h => by rw [wordL_nil] at h; cases h
 | f + 1, c :: l, b, e, h => by
   rw [wordL_cons] at h
   split at h
   ·cases h
   ·split at h
    ·next e' m' hx =>
     injection h with h1 h2
     rw [← h2]
     refine ⟨(errb_all _).1 _ _ _ _ _ hx, ?_⟩
     have := thg_len (3 * (l.length + 1) + 2) c l 0 0
     rw [hx] at this
     exact this
    ·next l' hl =>
     obtain ⟨h1, h2⟩ := wordL_errb f h
     have := thg_lt hl
     exact ⟨h1, by simp; omega⟩
theorem awaitL_good {l : List UInt8} {st : LS} (word : List UInt8) (h : Good l st) : Good l (awaitL st word) := by
 unfold awaitL
 split
 ·exact h
 ·next t ht =>
  split
  ·have hn : 0 < st.toks.length := by
    rcases Nat.eq_zero_or_pos st.toks.length with h0 | h0
    ·rw [List.eq_nil_of_length_eq_zero h0] at ht; cases ht
    ·exact h0
   have hp : pts (st.toks.modify (st.toks.length - 1) (fun t => { t with raw := word.any (fun c => c == 92 || c == 39 || c == 34) })) = pts st.toks := pts_modify _ _ _ (fun t => ⟨rfl, rfl⟩)
   refine ⟨fun hf => ?_, ?_, ?_, h.bad, h.zero⟩
   ·obtain ⟨k, h1, h2, h3⟩ := h.suf hf
    refine ⟨k, h1, h2, ?_⟩
    show lastEnd 0 (pts (st.toks.modify _ _)) ≤ k
    rw [hp]; exact h3
   ·show Stands l 0 (pts (st.toks.modify _ _))
    rw [hp]; exact h.std
   ·intro x hx
    show x.tok < (st.toks.modify _ _).length
    rw [List.length_modify]
    have hx : x ∈ st.wait ++ [_] := hx
    rcases List.mem_append.1 hx with hx | hx
    ·exact h.wt x hx
    ·simp at hx
     rw [hx]
     show st.toks.length - 1 < _
     omega
  ·exact h
theorem awaitL_pts (st : LS) (word : List UInt8) : pts (awaitL st word).toks = pts st.toks := by
 unfold awaitL
 split
 ·rfl
 ·split
  ·exact pts_modify _ _ _ (fun t => ⟨rfl, rfl⟩)
  ·rfl
theorem awaitL_zero (st : LS) (word : List UInt8) : (awaitL st word).flt = st.flt := by
 unfold awaitL
 split
 ·rfl
 ·split <;> rfl
theorem takeUpL_pts (st : LS) (x : Wt) : pts (takeUpL st x).toks = pts st.toks := by
 unfold takeUpL
 split
 ·split
  ·exact pts_modify _ _ _ (fun t => ⟨rfl, rfl⟩)
  ·unfold LS.fail; split <;> rfl
 ·rfl
theorem foldl_pts (ws : List Wt) : ∀ st : LS, pts (ws.foldl takeUpL st).toks = pts st.toks := by
 induction ws with
 | nil => intro st; rfl
 | cons x ws ih => intro st; rw [List.foldl_cons, ih, takeUpL_pts]
theorem skL_suf : ∀ (f : Nat) (l : List UInt8), skL f l <:+ l
 | 0, l => by rw [skL]; exact List.suffix_refl _
 | f + 1, [] => by rw [skL_nil]; exact List.suffix_refl _
 | f + 1, c :: r => by
   rw [skL_cons]
   split
   ·exact (skL_suf f r).trans (List.suffix_cons c r)
   ·split
    ·exact ((skL_suf f _).trans (List.drop_suffix 1 r)).trans (List.suffix_cons c r)
    ·split
     ·exact ((skL_suf f _).trans (List.dropWhile_suffix _)).trans (List.suffix_cons c r)
     ·exact List.suffix_refl _
theorem skipped_front {st : LS} : (skipped st).flt = 0 → ∀ c R, (skipped st).rest = c :: R → blkB (c.toNat : Int) = false := by
 unfold skipped
 split
 ·intro _ c R h
  exact (skL_head _ _ (Nat.lt_succ_self _) c R h).1
 ·next hf => intro h; exact absurd h hf
theorem skipped_good {l : List UInt8} {st : LS} (h : Good l st) : Good l (skipped st) := by
 unfold skipped
 split
 ·next hf =>
  obtain ⟨k, h1, h2, h3⟩ := h.suf hf
  have hs : skL (st.rest.length + 1) st.rest <:+ st.rest := skL_suf _ _
  rw [h2] at hs
  obtain ⟨j, j1, j2, j3⟩ := drop_suffix h1 hs
  exact ⟨fun _ => ⟨j, j2, by rw [← j3, h2], by show lastEnd 0 (pts st.toks) ≤ j; omega⟩, h.std, h.wt, h.bad, h.zero⟩
 ·exact h
theorem tokenL_good {l : List UInt8} {st : LS} {c : UInt8} {R : List UInt8} (h : Good l st) (hf : st.flt = 0) (hr : st.rest = c :: R) (hb : blkB (c.toNat : Int) = false) : Good l (tokenL l.length st) := by
 obtain ⟨k, hk, hrk, hek⟩ := h.suf hf
 rw [hr] at hrk
 have hkl : k < l.length := by
  rcases Nat.lt_or_ge k l.length with h' | h'
  ·exact h'
  ·rw [List.drop_eq_nil_of_le h'] at hrk; cases hrk
 have hkR : l.length - (R.length + 1) = k := by
  have := congrArg List.length hrk
  rw [List.length_cons, List.length_drop] at this
  omega
 have hR : R = l.drop (k + 1) := by
  have := congrArg (List.drop 1) hrk
  rw [List.drop_drop] at this
  exact this
 unfold tokenL
 rw [hr]
 simp only [hkR]
 split
 ·next hc =>
  have h1 : Good l { st with rest := R } := ⟨fun _ => ⟨k + 1, by omega, hR, by show lastEnd 0 (pts st.toks) ≤ _; omega⟩, h.std, h.wt, h.bad, h.zero⟩
  have h2 := foldl_good st.wait _ h1 h.wt
  unfold newlineL
  simp only
  split
  ·next hf2 =>
   have hpe : pts (st.wait.foldl takeUpL { st with rest := R }).toks = pts st.toks := foldl_pts _ _
   obtain ⟨j, j1, j2, j3⟩ := h2.suf hf2
   have hjk : k + 1 ≤ j ∨ (st.wait.foldl takeUpL { st with rest := R }).rest = [] := by
    have hs : (st.wait.foldl takeUpL { st with rest := R }).rest.length ≤ R.length := foldl_rest _ _
    have a1 := congrArg List.length j2
    have a2 := congrArg List.length hR
    rw [List.length_drop] at a1 a2
    omega
   have hj' : ∃ j', k + 1 ≤ j' ∧ j' ≤ l.length ∧ (st.wait.foldl takeUpL { st with rest := R }).rest = l.drop j' := by
    rcases hjk with h' | h'
    ·exact ⟨j, h', j1, j2⟩
    ·exact ⟨l.length, by omega, ler _, by rw [h', List.drop_length]⟩
   obtain ⟨j', q1, q2, q3⟩ := hj'
   have h3 : Good l { (st.wait.foldl takeUpL { st with rest := R }) with wait := [] } := ⟨h2.suf, h2.std, fun x hx => by simp at hx, h2.bad, h2.zero⟩
   refine add_good (k := j') h3 hf2 (by simp) ?_ ?_ q1 q2 q3
   ·show lastEnd 0 (pts (st.wait.foldl takeUpL { st with rest := R }).toks) ≤ k
    rw [hpe]; exact hek
   ·rw [← hrk, hc]; rfl
  ·exact h2
 ·next hc =>
  split
  ·next ho =>
   have hm := opL_meta ho hb hc
   unfold wordTok
   rw [hr]
   simp only [List.length_cons, hkR]
   cases hw : wordL (R.length + 1 + 1) (c :: R) with
   | err e m =>
     simp only
     have he := wordL_err _ hw
     obtain ⟨m1, m2⟩ := wordL_errb _ hw
     have : 0 < m.length := List.length_pos_iff.2 m1
     rw [List.length_cons] at m2
     refine ⟨fun e0 => absurd (show e = 0 from e0) he, h.std, h.wt, fun _ => ?_, fun e0 => absurd (show e = 0 from e0) he⟩
     show 0 ≤ ((l.length - m.length : Nat) : Int) ∧ ((l.length - m.length : Nat) : Int) < l.length
     omega
   | ok r =>
     simp only
     have hlt := wordL_lt hw hm
     obtain ⟨t, ht⟩ := wordL_suf _ hw
     have hlen := congrArg List.length ht
     rw [List.length_append, List.length_cons] at hlen
     have htk : (c :: R).take (R.length + 1 - r.length) = t := by
      rw [ht, show R.length + 1 - r.length = t.length by omega, List.take_left]
     rw [htk]
     have ht0 : t ≠ [] := fun e => by rw [e] at hlen; simp at hlen; omega
     have hrd : r = l.drop (k + t.length) := by rw [← List.drop_drop, ← hrk, ht, List.drop_left]
     have hrl : k + t.length ≤ l.length := by
      have := congrArg List.length hrk
      rw [List.length_cons, List.length_drop] at this
      omega
     have htt : (l.drop k).take t.length = t := by rw [← hrk, ht, List.take_left]
     have h1 : Good l { st with rest := r } := ⟨fun _ => ⟨k + t.length, hrl, hrd, by show lastEnd 0 (pts st.toks) ≤ _; omega⟩, h.std, h.wt, h.bad, h.zero⟩
     split
     ·exact add_good (k := k + t.length) h1 hf ht0 hek htt (ler _) hrl hrd
     ·have h2 := awaitL_good t h1
      have hpa : pts (awaitL { st with rest := r } t).toks = pts st.toks := awaitL_pts _ _
      have hfa : (awaitL { st with rest := r } t).flt = 0 := by rw [awaitL_zero]; exact hf
      refine add_good (k := k + t.length) h2 hfa ht0 (by rw [hpa]; exact hek) htt (ler _) hrl ?_
      rw [(awaitL_few _ _).1]
      exact hrd
  ·next ho =>
   obtain ⟨t, ht⟩ := opL_pre (c :: R)
   have hlen := congrArg List.length ht
   rw [List.length_append, List.length_cons] at hlen
   have hrl : k + (opL (c :: R)).length ≤ l.length := by
    have := congrArg List.length hrk
    rw [List.length_cons, List.length_drop] at this
    omega
   have hrd : (c :: R).drop (opL (c :: R)).length = l.drop (k + (opL (c :: R)).length) := by rw [← List.drop_drop, ← hrk]
   have h1 : Good l { st with rest := (c :: R).drop (opL (c :: R)).length } := ⟨fun _ => ⟨k + (opL (c :: R)).length, hrl, hrd, by show lastEnd 0 (pts st.toks) ≤ _; omega⟩, h.std, h.wt, h.bad, h.zero⟩
   refine add_good (k := k + (opL (c :: R)).length) h1 hf ho hek ?_ (ler _) hrl hrd
   rw [← hrk]
   exact List.prefix_iff_eq_take.1 (opL_pre (c :: R)) |>.symm
theorem finL_good {l : List UInt8} : ∀ (F : Nat) (st : LS), Good l st → (st.flt = 0 → ∀ c R, st.rest = c :: R → blkB (c.toNat : Int) = false) → Good l (finL l.length F st)
 | F, st, h, hh => by
   unfold finL
   split
   ·next hf =>
    split
    ·exact h
    ·next hne =>
     cases hr : st.rest with
     | nil => exact absurd hr hne
     | cons c R =>
       have h1 := tokenL_good h hf hr (hh hf c R hr)
       cases F with
       | zero => exact h1
       | succ F =>
         rw [loopL_fin]
         exact finL_good F _ (skipped_good h1) skipped_front
   ·exact h
termination_by F => F
theorem lexL_stands (l : List UInt8) (hl : l.length ≤ 4096) : Stands l 0 (pts (lexL l).1) ∧ ((lexL l).2.2 = 0 → (lexL l).2.1 = 0) ∧ ((lexL l).2.2 ≠ 0 → 0 ≤ (lexL l).2.1 ∧ (lexL l).2.1 < l.length) := by
 have h0 : Good l ⟨l, [], [], 0, 0⟩ := ⟨fun _ => ⟨0, Nat.zero_le _, rfl, ler _⟩, trivial, fun x hx => by simp at hx, fun e => absurd rfl e, fun _ => rfl⟩
 have h1 : Good l (loopL l.length (l.length + 1) ⟨l, [], [], 0, 0⟩) := by
  rw [loopL_fin]
  exact finL_good _ _ (skipped_good h0) skipped_front
 unfold lexL
 rw [if_neg (by omega)]
 generalize loopL l.length (l.length + 1) ⟨l, [], [], 0, 0⟩ = st at h1
 simp only
 have h2 : Good l (match st.wait with
  | [] => st
  | x :: _ => st.fail 12 (st.posOf x.tok)) := by
  cases hw : st.wait with
  | nil => exact h1
  | cons x ws =>
    simp only
    unfold LS.fail
    split
    ·next hf =>
     exact ⟨fun e => absurd (show (12 : Int) = 0 from e) (by decide), h1.std, h1.wt, fun _ => h1.pos (h1.wt x (by rw [hw]; simp)), fun e => absurd (show (12 : Int) = 0 from e) (by decide)⟩
    ·exact h1
 exact ⟨h2.std, h2.zero, h2.bad⟩
def spanN (p : Int → Bool) (l : List UInt8) : Nat := (l.takeWhile fun c => p (c.toNat : Int)).length
theorem spanN_le (p : Int → Bool) (l : List UInt8) : spanN p l ≤ l.length := by
 unfold spanN; exact (List.takeWhile_sublist _).length_le
def AllTo (p : Int → Bool) (l : List UInt8) (k : Nat) : Prop := ∀ j (h : j < l.length), j < k → p (l[j].toNat : Int) = true
theorem AllTo.succ {p : Int → Bool} {l : List UInt8} {k : Nat} (h : AllTo p l k) (hk : k < l.length) (e : p (l[k].toNat : Int) = true) : AllTo p l (k + 1) := by
 intro j hj hjk
 by_cases hjk' : j < k
 ·exact h j hj hjk'
 ·have : j = k := by omega
  subst this; exact e
theorem spanN_cons (p : Int → Bool) (c : UInt8) (l : List UInt8) : spanN p (c :: l) = if p (c.toNat : Int) = true then spanN p l + 1 else 0 := by
 unfold spanN
 rw [List.takeWhile_cons]
 split <;> simp
theorem spanN_stop (p : Int → Bool) : ∀ (l : List UInt8) (k : Nat) (hk : k < l.length), AllTo p l k → p (l[k].toNat : Int) = false → spanN p l = k
 | c :: l, 0, _, _, e => by
   rw [spanN_cons]
   simp at e
   simp [e]
 | c :: l, k + 1, hk, h, e => by
   rw [spanN_cons]
   have h0 : p (c.toNat : Int) = true := h 0 (by simp) (by omega)
   rw [if_pos h0]
   have hk' : k < l.length := by simpa using hk
   have := spanN_stop p l k hk' (fun j hj hjk => by have := h (j + 1) (by simp; omega) (by omega); simpa using this) (by simpa using e)
   omega
theorem spanN_all (p : Int → Bool) : ∀ (l : List UInt8), AllTo p l l.length → spanN p l = l.length
 | [], _ => rfl
 | c :: l, h => by
   rw [spanN_cons]
   have h0 : p (c.toNat : Int) = true := h 0 (by simp) (by simp)
   rw [if_pos h0]
   have := spanN_all p l (fun j hj _ => by have := h (j + 1) (by simp; omega) (by simp; omega); simpa using this)
   simp; omega
def alpB (c : Int) : Bool := (decide (97 ≤ c) && decide (c ≤ 122)) || (decide (65 ≤ c) && decide (c ≤ 90)) || c == 95
theorem alpha_any (c : Int) (w : World) :
 Calls Tryz.prog 118 #[.int .u8 c] w fun e w' => e = .returned (.bool (alpB c)) ∧ w' = w := by
 by_cases h1 : 97 ≤ c
 all_goals by_cases h2 : c ≤ 122
 all_goals by_cases h3 : 65 ≤ c
 all_goals by_cases h4 : c ≤ 90
 all_goals try omega
 all_goals rcases Bool.eq_false_or_eq_true (c == 95) with h5 | h5
 all_goals
  go_enter Tryz.func118, Tryz.ntmps118
  go_wp2
  go_ret
  exact ⟨ret_bool (by unfold alpB; simp [*]), rfl⟩
def namB (c : Int) : Bool := alpB c || digB c
theorem front1_any (c : Int) (w : World) :
 Calls Tryz.prog 120 #[.int .u8 c] w fun e w' => e = .returned (.bool (namB c)) ∧ w' = w := by
 rcases Bool.eq_false_or_eq_true (alpB c) with h1 | h1
 all_goals
  go_enter Tryz.func120, Tryz.ntmps120
  go_wp2_with (first | (go_at_call 118; refine (alpha_any _ _).mono ?_; rintro e w' ⟨rfl, rfl⟩) | (go_at_call 94; refine (digit_any _ _).mono ?_; rintro e w' ⟨rfl, rfl⟩))
  go_ret
  exact ⟨ret_bool (by unfold namB; simp [*]), rfl⟩
theorem span_nam (s : ByteArray) (w : World) (hs : s.size ≤ 100000) :
 Calls Tryz.prog 119 #[.string s, .func (Fn.func 120) #[] #[]] w fun e w' => e = .returned (.int .i64 (spanN namB s.data.toList)) ∧ w' = w := by
 go_enter Tryz.func119, Tryz.ntmps119
 go_wp2
 go_loop [8] (fun i => ∃ k : Nat, k ≤ s.size ∧ i = .int .i64 k ∧ AllTo namB s.data.toList k) (fun i => s.size - (intOf i).toNat)
 case atStart => exact ⟨0, Nat.zero_le _, rfl, fun j hj hjk => absurd hjk (by omega)⟩
 case round =>
  obtain ⟨k, hk, rfl, hall⟩ := hrel
  by_cases hlt : k < s.size
  ·rcases Bool.eq_false_or_eq_true (namB (s[k].toNat : Int)) with h1 | h1
   ·go_wp2_with (go_at_call 120; refine (front1_any _ _).mono ?_; rintro e w' ⟨rfl, rfl⟩)
    go_round
    case rel => exact ⟨k + 1, by omega, by go_num, hall.succ (by simpa using hlt) (by rw [data_get s k hlt]; exact h1)⟩
    case measure => simp [intOf]; omega
   ·go_wp2_with (go_at_call 120; refine (front1_any _ _).mono ?_; rintro e w' ⟨rfl, rfl⟩)
    go_ret
    exact ⟨ret_int (by rw [spanN_stop namB s.data.toList k (by simpa using hlt) hall (by rw [data_get s k hlt]; exact h1)]), rfl⟩
  ·go_wp2
   go_ret
   exact ⟨ret_int (by rw [spanN_all namB s.data.toList (fun j hj _ => hall j hj (by simp at hj; omega))]; simp), rfl⟩
def frontN : List UInt8 → Nat
 | [] => 0
 | c :: l => if alpB (c.toNat : Int) = true then spanN namB (c :: l) else 0
theorem empty_of {s : ByteArray} (h : s.size = 0) : s.toList.isEmpty = true := by
 rw [ByteArray.toList_eq]
 have : s.data.toList.length = 0 := by simpa using h
 rw [List.eq_nil_of_length_eq_zero this]; rfl
theorem nonempty_of {s : ByteArray} (h : 0 < s.size) : s.toList.isEmpty = false := by
 rw [ByteArray.toList_eq]
 cases hl : s.data.toList with
 | nil => have : s.data.toList.length = 0 := by rw [hl]; rfl
          have : s.size = 0 := by simpa using this
          omega
 | cons _ _ => rfl
theorem frontN_empty {s : ByteArray} (h : s.size = 0) : frontN s.data.toList = 0 := by
 have : s.data.toList.length = 0 := by simpa using h
 rw [List.eq_nil_of_length_eq_zero this]; rfl
theorem frontN_no {s : ByteArray} (h : 0 < s.size) (e : alpB (s[0].toNat : Int) = false) : frontN s.data.toList = 0 := by
 have hg := data_get s 0 h
 cases hl : s.data.toList with
 | nil => rfl
 | cons c l =>
   simp only [hl, List.getElem_cons_zero] at hg
   subst hg
   simp [frontN, e]
theorem frontN_yes {s : ByteArray} (h : 0 < s.size) (e : alpB (s[0].toNat : Int) = true) : frontN s.data.toList = spanN namB s.data.toList := by
 have hg := data_get s 0 h
 cases hl : s.data.toList with
 | nil => rfl
 | cons c l =>
   simp only [hl, List.getElem_cons_zero] at hg
   subst hg
   simp [frontN, e]
theorem front_any (s : ByteArray) (w : World) (hs : s.size ≤ 100000) :
 Calls Tryz.prog 97 #[.string s] w fun e w' => e = .returned (.int .i64 (frontN s.data.toList)) ∧ w' = w := by
 by_cases h0 : s.size = 0
 ·have he := empty_of h0
  go_enter Tryz.func97, Tryz.ntmps97
  go_wp2
  go_ret
  exact ⟨ret_int (by rw [frontN_empty h0]; rfl), rfl⟩
 ·have hlt : 0 < s.size := by omega
  have he := nonempty_of hlt
  rcases Bool.eq_false_or_eq_true (alpB (s[0].toNat : Int)) with h1 | h1
  ·go_enter Tryz.func97, Tryz.ntmps97
   go_wp2_with (first | (go_at_call 118; refine (alpha_any _ _).mono ?_; rintro e w' ⟨rfl, rfl⟩) | (go_at_call 119; refine (span_nam _ _ hs).mono ?_; rintro e w' ⟨rfl, rfl⟩))
   go_ret
   exact ⟨ret_int (by rw [frontN_yes hlt h1]), rfl⟩
  ·go_enter Tryz.func97, Tryz.ntmps97
   go_wp2_with (go_at_call 118; refine (alpha_any _ _).mono ?_; rintro e w' ⟨rfl, rfl⟩)
   go_ret
   exact ⟨ret_int (by rw [frontN_no hlt h1]; rfl), rfl⟩
end Go.Proofs.YtojjfdobilkknaaGreatDoor
namespace Go.Proofs.YtojjfdobilkknaaGreatDoor
inductive Prt where
 | mk (kind : Int) (text : List UInt8) (quote : Bool) (op : Int) (colon : Bool) (sub : List Prt) : Prt
def Prt.kind : Prt → Int
 | .mk k _ _ _ _ _ => k
def Prt.text : Prt → List UInt8
 | .mk _ t _ _ _ _ => t
def Prt.quote : Prt → Bool
 | .mk _ _ q _ _ _ => q
def Prt.op : Prt → Int
 | .mk _ _ _ o _ _ => o
def Prt.colon : Prt → Bool
 | .mk _ _ _ _ c _ => c
def Prt.sub : Prt → List Prt
 | .mk _ _ _ _ _ s => s
mutual
def sameP : Prt → Prt → Bool
 | .mk k t q o c s, .mk k' t' q' o' c' s' => k == k' && t == t' && q == q' && o == o' && c == c' && sameW s s'
def sameW : List Prt → List Prt → Bool
 | [], [] => true
 | a :: r, b :: r' => sameP a b && sameW r r'
 | [], _ :: _ => false
 | _ :: _, [] => false
end
theorem sameP_mk (k t q o c s k' t' q' o' c' s') : sameP (.mk k t q o c s) (.mk k' t' q' o' c' s') = (k == k' && t == t' && q == q' && o == o' && c == c' && sameW s s') := by rw [sameP]
theorem sameW_cons (a b : Prt) (r r' : List Prt) : sameW (a :: r) (b :: r') = (sameP a b && sameW r r') := by rw [sameW]
theorem sameW_nil : sameW [] [] = true := by rw [sameW]
mutual
theorem sameP_eq : ∀ a b : Prt, sameP a b = true → a = b
 | .mk k t q o c s, .mk k' t' q' o' c' s', h => by
   rw [sameP_mk] at h
   simp only [Bool.and_eq_true, beq_iff_eq] at h
   obtain ⟨⟨⟨⟨⟨h1, h2⟩, h3⟩, h4⟩, h5⟩, h6⟩ := h
   rw [h1, h2, h3, h4, h5, sameW_eq s s' h6]
theorem sameW_eq : ∀ a b : List Prt, sameW a b = true → a = b
 | [], [], _ => rfl
 | a :: r, b :: r', h => by
   rw [sameW_cons] at h
   simp only [Bool.and_eq_true] at h
   rw [sameP_eq a b h.1, sameW_eq r r' h.2]
 | [], _ :: _, h => by rw [sameW] at h; cases h
 | _ :: _, [], h => by rw [sameW] at h; cases h
end
mutual
theorem sameP_refl : ∀ a : Prt, sameP a a = true
 | .mk k t q o c s => by
   rw [sameP_mk, sameW_refl s]
   simp
theorem sameW_refl : ∀ a : List Prt, sameW a a = true
 | [] => sameW_nil
 | a :: r => by rw [sameW_cons, sameP_refl a, sameW_refl r]; rfl
end
theorem sameW_len : ∀ {a b : List Prt}, a.length ≠ b.length → sameW a b = false
 | [], [], h => absurd rfl h
 | [], _ :: _, _ => by rw [sameW]
 | _ :: _, [], _ => by rw [sameW]
 | a :: r, b :: r', h => by
   rw [sameW_cons, sameW_len (a := r) (b := r') (by intro e; exact h (by simp [e]))]
   simp
def litP (t : List UInt8) (q : Bool) : Prt := .mk 1 t q 0 false []
def addP (ps : List Prt) (p : Prt) : List Prt :=
 match ps.getLast? with
 | none => [p]
 | some (.mk k t q o c s) => if k = 1 ∧ p.kind = 1 ∧ q = p.quote then ps.dropLast ++ [.mk k (t ++ p.text) q o c s] else ps ++ [p]
theorem addP_nil (p : Prt) : addP [] p = [p] := rfl
theorem addP_snoc (ps : List Prt) (k t q o c s) (p : Prt) : addP (ps ++ [.mk k t q o c s]) p = if k = 1 ∧ p.kind = 1 ∧ q = p.quote then ps ++ [.mk k (t ++ p.text) q o c s] else ps ++ [.mk k t q o c s, p] := by
 unfold addP
 simp
def allW (w : Nat) : Bool := w == 2 || w == 3 || w == 5
def sngW (w : Nat) : Bool := w == 0 || w == 1
def flagW (b : Bool) (w : Nat) (c : UInt8) : Bool := !sngW w && !(c == 34 && (w == 3 || w == 4 || (w == 2 && !b)))
def escW (w : Nat) (c : UInt8) : Bool := c == 36 || c == 92 || c == 96 || (c == 34 && w != 5) || (c == 125 && w == 3)
def withinW (w : Nat) (op : Int) : Nat := if sngW w then 1 else if 6 ≤ op then 4 else 3
def speB (c : UInt8) : Bool := c == 64 || c == 42 || c == 35 || c == 63
def parN (l : List UInt8) : Nat :=
 if 0 < frontN l then frontN l else match l with
 | [] => 0
 | c :: _ => if speB c then 1 else if 3 < spanN digB l ∨ (1 < spanN digB l ∧ c = 48) then 0 else spanN digB l
def nmdN (l : List UInt8) : Nat :=
 if 0 < frontN l then frontN l else match l with
 | [] => 0
 | c :: _ => if digB (c.toNat : Int) || speB c then 1 else 0
def sgnL : Bool → List UInt8 → Option (Int × List UInt8)
 | _, 45 :: r => some (2, r)
 | _, 61 :: r => some (3, r)
 | _, 63 :: r => some (4, r)
 | _, 43 :: r => some (5, r)
 | false, 35 :: 35 :: r => some (7, r)
 | false, 35 :: r => some (6, r)
 | false, 37 :: 37 :: r => some (9, r)
 | false, 37 :: r => some (8, r)
 | _, _ => none
def pairL (w : Nat) (u : List UInt8) : List Prt :=
 if u = [10] then [] else if u = [] then [litP [92] true] else if allW w && !(u.all (escW w)) then [litP (92 :: u) true] else [litP u true]
def okNil : Rs → Bool
 | .ok [] => true
 | .ok (_ :: _) => false
 | .err _ _ => false
def brkB (l : List UInt8) : Bool := (l.head? == some 40) && okNil (thg (3 * (l.length + 1) + 3) (36 :: l) 0 0)
def runP (l : List UInt8) : Prt := if brkB l then .mk 4 ((l.drop 1).dropLast) false 0 false [] else .mk 3 l false 0 false []
def setQ (q : Bool) : Prt → Prt
 | .mk k t _ o c s => .mk k t q o c s
inductive Rd where
 | ok (ps : List Prt)
 | err (e : Int)
inductive Th where
 | ok (ps : List Prt) (r : List UInt8)
 | err (e : Int)
def Rd.word : Rd → Rd
 | .ok ps => .ok (ps.foldl addP [])
 | .err e => .err e
def colonL (l : List UInt8) : Bool := l.head? == some 58
def behindL (l : List UInt8) : List UInt8 := if colonL l then l.drop 1 else l
inductive Bd where
 | ok (p : Prt)
 | err (e : Int)
def brcL (rd : Nat → List UInt8 → Rd) (w : Nat) (l : List UInt8) : Bd :=
 if l.head? = some 35 ∧ l.drop 1 ≠ [] ∧ parN (l.drop 1) = (l.drop 1).length then .ok (.mk 2 (l.drop 1) false 1 false [])
 else if parN l = 0 then .err 10
 else if parN l = l.length then .ok (.mk 2 l false 0 false [])
 else match sgnL (colonL (l.drop (parN l))) (behindL (l.drop (parN l))) with
  | none => .err 10
  | some (op, t) => match (rd (withinW w op) t).word with
    | .err e => .err e
    | .ok ps => .ok (.mk 2 (l.take (parN l)) false op (colonL (l.drop (parN l))) ps)
def lngL (rd : Nat → List UInt8 → Rd) (w : Nat) (u : List UInt8) : Bd := if u.head? = some 40 then .ok (runP (u.drop 1).dropLast) else brcL rd w (u.drop 1).dropLast
def thnL (rd : Nat → List UInt8 → Rd) (w : Nat) (c : UInt8) (u rest : List UInt8) : Th :=
 if c = 92 then .ok (pairL w u) rest
 else if c = 39 ∧ u ≠ [] then .ok [litP u.dropLast true] rest
 else if c = 34 ∧ u ≠ [] then match (rd 2 u.dropLast).word with
  | .err e => .err e
  | .ok ps => .ok (if ps.isEmpty then [litP [] true] else ps) rest
 else if c = 36 ∧ u = [] then (if nmdN rest = 0 then .ok [litP [36] true] rest else .ok [.mk 2 (rest.take (nmdN rest)) (allW w) 0 false []] (rest.drop (nmdN rest)))
 else if c = 36 then match lngL rd w u with
  | .err e => .err e
  | .ok p => .ok [setQ (allW w) p] rest
 else if w = 0 ∧ metB (c.toNat : Int) = true then .err 10
 else .ok [litP [c] (allW w)] rest
def thiL (b : Bool) (rd : Nat → List UInt8 → Rd) (w : Nat) (c : UInt8) (r : List UInt8) : Th :=
 match thg (3 * (r.length + 1) + 3) (c :: r) (if flagW b w c then 1 else 0) 0 with
 | .err e _ => .err e
 | .ok rest => thnL rd w c (r.take (r.length - rest.length)) rest
def rdL (b : Bool) : Nat → Nat → List UInt8 → Rd
 | 0, _, _ => .ok []
 | _ + 1, _, [] => .ok []
 | f + 1, w, c :: r => match thiL b (rdL b f) w c r with
   | .err e => .err e
   | .ok ps rest => match rdL b f w rest with
     | .err e => .err e
     | .ok qs => .ok (ps ++ qs)
def wrdL (b : Bool) (w : Nat) (l : List UInt8) : Rd := if 4096 < l.length then .err 3 else (rdL b (l.length + 1) w l).word
def Rd.parts : Rd → List Prt
 | .ok ps => ps
 | .err _ => []
def Rd.errno : Rd → Int
 | .ok _ => 0
 | .err e => e
end Go.Proofs.YtojjfdobilkknaaGreatDoor

/-
  Which errors a text's things, tokens and words have.
-/
import Derived.Test.YtnamineofpeahaaGreatDoorM09
import Derived.Test.YtnamineofpeahaaGreatDoorM18
namespace Go.Proofs.YtnamineofpeahaaGreatDoor
open Go.RowKit

def Ee (e : Int) : Prop := e = 10 ∨ e = 3 ∨ e = 11 ∨ e = 12
theorem ee_all : ∀ f : Nat, (∀ l wh d e b, thg f l wh d = .err e b → Ee e) ∧ (∀ l fr c wh d e b, cls f l fr c wh d = .err e b → Ee e) ∧ (∀ l fr c wh d e b, lop f l fr c wh d = .err e b → Ee e)
 | 0 => ⟨fun l wh d e b h => (by rw [thg] at h; cases h), fun l fr c wh d e b h => (by rw [cls] at h; cases h), fun l fr c wh d e b h => (by rw [lop] at h; cases h)⟩
 | f + 1 => by
   obtain ⟨iT, iC, iL⟩ := ee_all f
   refine ⟨fun l wh d e b h => ?_, fun l fr c wh d e b h => ?_, fun l fr c wh d e b h => ?_⟩
   ·cases l with
    | nil => rw [thg] at h; cases h
    | cons x l =>
      rw [thg_succ] at h
      split at h
      ·cases h
      split at h
      ·split at h
       ·cases h
       ·exact iC _ _ _ _ _ _ _ h
      split at h
      ·split at h
       ·cases h
       ·split at h
        ·injection h with h1 h2; rw [← h1]; exact .inr (.inr (.inl rfl))
        ·cases h
      split at h
      ·split at h
       ·exact iC _ _ _ _ _ _ _ h
       ·split at h
        ·exact iC _ _ _ _ _ _ _ h
        ·cases h
      split at h
      ·split at h
       ·exact iC _ _ _ _ _ _ _ h
       ·cases h
      split at h
      ·injection h with h1 h2; rw [← h1]; exact .inl rfl
      ·cases h
   ·rw [cls_succ] at h
    split at h
    ·injection h with h1 h2; rw [← h1]; exact .inr (.inl rfl)
    ·exact iL _ _ _ _ _ _ _ h
   ·cases l with
    | nil => rw [lop_nil] at h; injection h with h1 h2; rw [← h1]; exact .inr (.inr (.inl rfl))
    | cons x l =>
      rw [lop_succ] at h
      split at h
      ·cases h
      ·split at h
       ·next x' b' hx => injection h with h1 h2; rw [← h1]; exact iT _ _ _ _ _ hx
       ·exact iL _ _ _ _ _ _ _ h
theorem ee_wordL : ∀ (f : Nat) {l b : List UInt8} {e : Int}, wordL f l = .err e b → Ee e
 | 0, l, b, e, h => by rw [wordL] at h; cases h
 | f + 1, [], b, e, h => by rw [wordL] at h; cases h
 | f + 1, c :: r, b, e, h => by
   rw [wordL] at h
   split at h
   ·cases h
   ·split at h
    ·next e' m hm => injection h with h1 h2; rw [← h1]; exact (ee_all _).1 _ _ _ _ _ hm
    ·exact ee_wordL f h
/-- Nothing is wrong, or one of the four. -/
def FO (st : LS) : Prop := st.flt = 0 ∨ Ee st.flt
theorem FO.fail {st : LS} (h : FO st) {e : Int} (x : Int) (he : Ee e) : FO (st.fail e x) := by
 unfold LS.fail
 split
 ·exact .inr he
 ·exact h
theorem FO.takeUp {st : LS} (h : FO st) (x : Wt) : FO (takeUpL st x) := by
 unfold takeUpL
 split
 ·split
  ·exact h
  ·exact FO.fail (st := { st with rest := [] }) h _ (.inr (.inr (.inr rfl)))
 ·exact h
theorem FO.foldl : ∀ (ws : List Wt) {st : LS}, FO st → FO (ws.foldl takeUpL st)
 | [], _, h => h
 | x :: ws, _, h => FO.foldl ws (h.takeUp x)
theorem FO.newline {st : LS} (h : FO st) (p : Int) : FO (newlineL st p) := by
 have h1 := FO.foldl st.wait h
 unfold newlineL
 simp only
 split
 ·exact h1
 ·exact h1
theorem FO.wordTok {st : LS} (h : FO st) (n : Nat) : FO (wordTok n st) := by
 unfold Go.Proofs.YtnamineofpeahaaGreatDoor.wordTok
 simp only
 split
 ·next e m hm => exact .inr (ee_wordL _ hm)
 ·split
  ·exact h
  ·next r _ _ =>
   have := awaitL_zero { st with rest := r } (st.rest.take (st.rest.length - r.length))
   show (awaitL _ _).flt = 0 ∨ Ee (awaitL _ _).flt
   rw [this]
   exact h
theorem FO.token {st : LS} (h : FO st) (n : Nat) : FO (tokenL n st) := by
 unfold tokenL
 split
 ·exact h
 ·next c r _ =>
  simp only
  split
  ·exact FO.newline (st := { st with rest := r }) h _
  ·split
   ·exact h.wordTok n
   ·exact h
theorem FO.loop {n : Nat} : ∀ (f : Nat) {st : LS}, FO st → FO (loopL n f st)
 | 0, _, h => h
 | f + 1, st, h => by
   rw [loopL]
   split
   ·simp only
    split
    ·exact h
    ·exact FO.loop f (FO.token (st := { st with rest := skL (st.rest.length + 1) st.rest }) h n)
   ·exact h
theorem lexL_ee (l : List UInt8) : (lexL l).2.2 = 0 ∨ Ee (lexL l).2.2 := by
 unfold lexL
 split
 ·exact .inr (.inr (.inl rfl))
 ·have h := FO.loop (n := l.length) (l.length + 1) (st := ⟨l, [], [], 0, 0⟩) (.inl rfl)
  simp only
  split
  ·exact h
  ·exact h.fail _ (.inr (.inr (.inr rfl)))

/-- A reader of words whose errors are of the four. -/
def RdE (rd : Nat → List UInt8 → Rd) : Prop := ∀ w l e, rd w l = .err e → Ee e
theorem word_ee {x : Rd} {e : Int} (h : x.word = .err e) : x = .err e := by
 cases x with
 | ok ps => cases h
 | err e' => injection h with h; rw [h]
theorem brcL_ee {rd : Nat → List UInt8 → Rd} (H : RdE rd) {w : Nat} {l : List UInt8} {e : Int} (h : brcL rd w l = .err e) : Ee e := by
 unfold brcL at h
 split at h
 ·cases h
 split at h
 ·injection h with h; rw [← h]; exact .inl rfl
 split at h
 ·cases h
 split at h
 ·injection h with h; rw [← h]; exact .inl rfl
 ·split at h
  ·next e' he => injection h with h; rw [← h]; exact H _ _ _ (word_ee he)
  ·cases h
theorem lngL_ee {rd : Nat → List UInt8 → Rd} (H : RdE rd) {w : Nat} {u : List UInt8} {e : Int} (h : lngL rd w u = .err e) : Ee e := by
 unfold lngL at h
 split at h
 ·cases h
 ·exact brcL_ee H h
theorem thnL_ee {rd : Nat → List UInt8 → Rd} (H : RdE rd) {w : Nat} {c : UInt8} {u rest : List UInt8} {e : Int} (h : thnL rd w c u rest = .err e) : Ee e := by
 unfold thnL at h
 split at h
 ·cases h
 split at h
 ·cases h
 split at h
 ·split at h
  ·next e' he => injection h with h; rw [← h]; exact H _ _ _ (word_ee he)
  ·cases h
 split at h
 ·split at h
  ·cases h
  ·cases h
 split at h
 ·split at h
  ·next e' he => injection h with h; rw [← h]; exact lngL_ee H he
  ·cases h
 split at h
 ·injection h with h; rw [← h]; exact .inl rfl
 ·cases h
theorem thiL_ee {b : Bool} {rd : Nat → List UInt8 → Rd} (H : RdE rd) {w : Nat} {c : UInt8} {r : List UInt8} {e : Int} (h : thiL b rd w c r = .err e) : Ee e := by
 unfold thiL at h
 split at h
 ·next e' m hm => injection h with h; rw [← h]; exact (ee_all _).1 _ _ _ _ _ hm
 ·exact thnL_ee H h
theorem rdL_ee (b : Bool) : ∀ f : Nat, RdE (rdL b f)
 | 0 => fun w l e h => by rw [rdL] at h; cases h
 | f + 1 => fun w l e h => by
   cases l with
   | nil => rw [rdL] at h; cases h
   | cons c r =>
     rw [rdL] at h
     split at h
     ·next e' he => injection h with h; rw [← h]; exact thiL_ee (rdL_ee b f) he
     ·split at h
      ·next e' he => injection h with h; rw [← h]; exact rdL_ee b f _ _ _ he
      ·cases h
theorem wrdL_ee (b : Bool) (w : Nat) (l : List UInt8) : (wrdL b w l).errno = 0 ∨ Ee (wrdL b w l).errno := by
 unfold wrdL
 split
 ·exact .inr (.inr (.inl rfl))
 ·cases h : (rdL b (l.length + 1) w l).word with
  | ok ps => exact .inl rfl
  | err e => exact .inr (rdL_ee b _ _ _ _ (word_ee h))

end Go.Proofs.YtnamineofpeahaaGreatDoor

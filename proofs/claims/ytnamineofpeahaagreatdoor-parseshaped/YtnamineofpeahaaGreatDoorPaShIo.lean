/-
  The lexer: behind an Io stands the Op of a redirection.
-/
import Derived.Test.YtnamineofpeahaaGreatDoorPaSw
import Derived.Test.YtnamineofpeahaaGreatDoorM08
namespace Go.Proofs.YtnamineofpeahaaGreatDoor
open Go.RowKit

def Rdk (t : ByteArray) : Prop := 1 ≤ (redirOf t).2 ∧ (redirOf t).2 ≤ 6
/-- Kinds and texts. -/
def ktq (ts : List Tok) : List (Int × ByteArray) := ts.map (fun t => (t.kind, t.text))
def Iqk (l : List (Int × ByteArray)) : Prop := ∀ (i : Nat) (t u : Int × ByteArray), l[i]? = some t → l[i + 1]? = some u → t.1 = 4 → Rdk u.2
theorem iq_of {ts : List Tok} (h : Iqk (ktq ts)) : Iq ts := fun i t u h1 h2 h3 => h i (t.kind, t.text) (u.kind, u.text) (by simp [ktq, h1]) (by simp [ktq, h2]) h3
theorem iqk_snoc {l : List (Int × ByteArray)} {u : Int × ByteArray} (h : Iqk l) (hu : ∀ t, l.getLast? = some t → t.1 = 4 → Rdk u.2) : Iqk (l ++ [u]) := by
 intro i t v h1 h2 h3
 by_cases hi : i + 1 < l.length
 ·rw [List.getElem?_append_left (by omega)] at h1
  rw [List.getElem?_append_left hi] at h2
  exact h i t v h1 h2 h3
 ·obtain ⟨hlt, _⟩ := List.getElem?_eq_some_iff.1 h2
  rw [List.length_append, List.length_singleton] at hlt
  rw [List.getElem?_append_left (by omega)] at h1
  rw [List.getElem?_append_right (by omega), show i + 1 - l.length = 0 by omega] at h2
  injection h2 with h2
  subst h2
  refine hu t ?_ h3
  rw [List.getLast?_eq_getElem?, show l.length - 1 = i by omega]
  exact h1
theorem ktq_modify (ts : List Tok) (i : Nat) (g : Tok → Tok) (hg : ∀ t, (g t).kind = t.kind ∧ (g t).text = t.text) : ktq (ts.modify i g) = ktq ts := by
 unfold ktq
 apply List.ext_getElem?
 intro j
 rw [List.getElem?_map, List.getElem?_map, List.getElem?_modify]
 by_cases h : i = j
 ·subst h
  cases ts[i]? with
  | none => rfl
  | some t => simp [(hg t).1, (hg t).2]
 ·cases ts[j]? with
  | none => rfl
  | some t => simp [h]
theorem takeUpL_ktq (st : LS) (x : Wt) : ktq (takeUpL st x).toks = ktq st.toks := by
 unfold takeUpL
 split
 ·split
  ·exact ktq_modify _ _ _ (fun t => ⟨rfl, rfl⟩)
  ·unfold LS.fail; split <;> rfl
 ·rfl
theorem foldl_ktq (ws : List Wt) : ∀ st : LS, ktq (ws.foldl takeUpL st).toks = ktq st.toks := by
 induction ws with
 | nil => intro st; rfl
 | cons x ws ih => intro st; rw [List.foldl_cons, ih, takeUpL_ktq]
theorem awaitL_ktq (st : LS) (word : List UInt8) : ktq (awaitL st word).toks = ktq st.toks := by
 unfold awaitL
 split
 ·rfl
 ·split
  ·exact ktq_modify _ _ _ (fun t => ⟨rfl, rfl⟩)
  ·rfl
theorem add_ktq (st : LS) (kind pos : Int) (text : List UInt8) : ktq (st.add kind text pos).toks = ktq st.toks ++ [(kind, BA text)] := by
 unfold ktq LS.add
 simp
def Anglh (l : List UInt8) : Prop := l.head? = some 60 ∨ l.head? = some 62
/-- How far the lexer is: behind an Io at the end a < or a > follows. -/
structure IoI (st : LS) : Prop where
 iq : Iqk (ktq st.toks)
 last : ∀ t, (ktq st.toks).getLast? = some t → t.1 = 4 → Anglh st.rest
theorem IoI.free {st : LS} (h : IoI st) (hr : ¬ Anglh st.rest) {l : List (Int × ByteArray)} (he : l = ktq st.toks) : Iqk l ∧ ∀ t, l.getLast? = some t → t.1 ≠ 4 := by
 subst he
 exact ⟨h.iq, fun t h1 h2 => hr (h.last t h1 h2)⟩
theorem IoI.of {st : LS} (h : Iqk (ktq st.toks) ∧ ∀ t, (ktq st.toks).getLast? = some t → t.1 ≠ 4) : IoI st := ⟨h.1, fun t h1 h2 => absurd h2 (h.2 t h1)⟩
theorem ioI_add {st : LS} {k p : Int} {x : List UInt8} (h : Iqk (ktq st.toks)) (hl : ∀ t, (ktq st.toks).getLast? = some t → t.1 = 4 → Rdk (BA x)) (hk : k = 4 → Anglh st.rest) : IoI (st.add k x p) := by
 refine ⟨by rw [add_ktq]; exact iqk_snoc h hl, fun t h1 h2 => ?_⟩
 rw [add_ktq, List.getLast?_concat] at h1
 injection h1 with h1
 subst h1
 exact hk h2
theorem opL_angle {l : List UInt8} (h : Anglh l) : Rdk (BA (opL l)) ∧ opL l ≠ [] := by
 cases l with
 | nil => rcases h with h | h <;> cases h
 | cons c r =>
   have hc : c = 60 ∨ c = 62 := h.imp (fun h => by injection h) (fun h => by injection h)
   have hne : opL (c :: r) ≠ [] := fun e => by
    have := opL_meta e (by rcases hc with rfl | rfl <;> decide) (by rcases hc with rfl | rfl <;> decide)
    revert this
    rcases hc with rfl | rfl <;> decide
   refine ⟨?_, hne⟩
   rcases opL_cases (c :: r) with e | ⟨e, _⟩
   ·exact absurd e hne
   ·have hp := opL_pre (c :: r)
    have hh : (opL (c :: r)).head? = some 60 ∨ (opL (c :: r)).head? = some 62 := by
     cases ho : opL (c :: r) with
     | nil => exact absurd ho hne
     | cons d q =>
       rw [ho] at hp
       obtain ⟨z, hz⟩ := hp
       injection hz with hz _
       rw [hz]
       exact hc.imp (fun e => by rw [e]; rfl) (fun e => by rw [e]; rfl)
    exact (by unfold Rdk; decide : ∀ o ∈ opsT, o.head? = some 60 ∨ o.head? = some 62 → Rdk (BA o)) _ e hh
theorem tokenL_io (n : Nat) {st : LS} (h : IoI st) : IoI (tokenL n st) := by
 unfold tokenL
 cases hr : st.rest with
 | nil => exact h
 | cons c r =>
   simp only
   split
   ·next hc =>
    subst hc
    have hf := h.free (by rw [hr]; rintro (e | e) <;> cases e) (foldl_ktq st.wait { st with rest := r })
    unfold newlineL
    simp only
    split
    ·exact ioI_add (st := { (st.wait.foldl takeUpL { st with rest := r }) with wait := [] }) hf.1 (fun t h1 h2 => absurd h2 (hf.2 t h1)) (fun e => by cases e)
    ·exact .of hf
   ·split
    ·next ho =>
     have hf := h.free (fun e => (opL_angle e).2 (by rw [hr]; exact ho)) rfl
     unfold wordTok
     simp only
     split
     ·exact .of hf
     ·next r' _ =>
      split
      ·next hd =>
       refine ioI_add (st := { st with rest := r' }) hf.1 (fun t h1 h2 => absurd h2 (hf.2 t h1)) (fun _ => ?_)
       rw [Bool.and_eq_true, Bool.or_eq_true] at hd
       exact hd.2.imp (fun e => eq_of_beq e) (fun e => eq_of_beq e)
      ·have hg := h.free (fun e => (opL_angle e).2 (by rw [hr]; exact ho)) (awaitL_ktq { st with rest := r' } (st.rest.take (st.rest.length - r'.length)))
       exact ioI_add hg.1 (fun t h1 h2 => absurd h2 (hg.2 t h1)) (fun e => by cases e)
    ·refine ioI_add (st := { st with rest := (c :: r).drop (opL (c :: r)).length }) h.iq (fun t h1 h2 => ?_) (fun e => by cases e)
     have := (opL_angle (h.last t h1 h2)).1
     rw [hr] at this
     exact this
theorem skL_angle {l : List UInt8} (h : Anglh l) (f : Nat) : skL (f + 1) l = l := by
 cases l with
 | nil => rcases h with h | h <;> cases h
 | cons c r =>
   have hc : c = 60 ∨ c = 62 := h.imp (fun h => by injection h) (fun h => by injection h)
   rw [skL_cons, if_neg (by rcases hc with rfl | rfl <;> decide), if_neg (by rcases hc with rfl | rfl <;> rintro ⟨e, _⟩ <;> revert e <;> decide), if_neg (by rcases hc with rfl | rfl <;> decide)]
theorem loopL_io (n : Nat) : ∀ (f : Nat) {st : LS}, IoI st → IoI (loopL n f st)
 | 0, st, h => h
 | f + 1, st, h => by
   rw [loopL]
   split
   ·have h1 : IoI { st with rest := skL (st.rest.length + 1) st.rest } := ⟨h.iq, fun t a b => by
     have := h.last t a b
     show Anglh (skL (st.rest.length + 1) st.rest)
     rw [skL_angle this]
     exact this⟩
    simp only
    split
    ·exact h1
    ·exact loopL_io n f (tokenL_io n h1)
   ·exact h
theorem lexL_iq (l : List UInt8) : Iq (lexL l).1 := by
 unfold lexL
 split
 ·exact Iq.nil
 ·have h := loopL_io l.length (l.length + 1) (st := ⟨l, [], [], 0, 0⟩) ⟨fun i t u h => by simp [ktq] at h, fun t h => by simp [ktq] at h⟩
  refine iq_of ?_
  simp only
  split
  ·exact h.iq
  ·unfold LS.fail
   split
   ·exact h.iq
   ·exact h.iq

end Go.Proofs.YtnamineofpeahaaGreatDoor

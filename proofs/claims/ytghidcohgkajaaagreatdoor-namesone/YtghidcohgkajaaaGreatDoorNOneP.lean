/-
  NamesOne, without memory: a name more or less in the root.
-/
import Derived.Test.YtghidcohgkajaaaGreatDoorNMovP
import Derived.Test.YtghidcohgkajaaaGreatDoorM22
namespace Go.Proofs.YtghidcohgkajaaaGreatDoor

theorem place_at {s : NS} (H : NInv s) {p : List UInt8} (hp : ∀ c ∈ p, c ≠ 47) (h : (placeN s 1 p).2.2 = 0) : (placeN s 1 p).1 = 1 ∧ (placeN s 1 p).2.1 = p := ⟨(walk_plain H hp h).1, (walk_plain H hp h).2.1⟩
/-- What a call that makes or takes a name leaves of the root's. -/
def OneMore (long short : List (List UInt8)) (p : List UInt8) : Prop := long.filter (fun t => decide (t ≠ p)) = short ∧ long.length = short.length + 1
theorem one_made {s s' : NS} (H : NInv s) {p : List UInt8} (hp : ∀ c ∈ p, c ≠ 47) {nb : Nat} {kind N E : Int} (h : MadeSp s nb 1 p kind [] N E s') : (E ≠ 0 → s' = s) ∧ (E = 0 → OneMore (inL s'.L 1) (inL s.L 1) p) := by
  by_cases h1 : (roomN s 1 p).2.2 = 0
  · by_cases h2 : makeE s.T kind = 0
    · obtain ⟨_, e2, e3⟩ := made_is h h1 h2
      refine ⟨fun e => absurd e2 e, fun _ => ?_⟩
      obtain ⟨r1, r2⟩ := room_ok h1
      obtain ⟨p1, p2⟩ := place_at H hp r2
      obtain ⟨_, _, hno⟩ := room_all H h1
      rw [r1, p1, p2] at e3 hno
      have e4 : s'.L = putL s.L ⟨1, p, makeN s.T kind⟩ := by rw [e3]
      rw [e4]
      exact ⟨inL_put (x := ⟨1, p, makeN s.T kind⟩) hno, inL_put_len ⟨1, p, makeN s.T kind⟩⟩
    · cases h with
      | bad h3 => exact absurd h1 h3
      | nodes h3 h4 => exact ⟨fun _ => rfl, fun e => absurd e h4⟩
      | space _ _ _ _ _ h3 => exact absurd h3 h2
      | done _ _ _ _ _ h3 => exact absurd h3 h2
  · cases h with
    | bad h3 => exact ⟨fun _ => rfl, fun e => absurd e h3⟩
    | nodes h3 h4 => exact absurd h3 h1
    | space _ _ _ _ h3 => exact absurd h3 h1
    | done _ _ _ _ h3 => exact absurd h3 h1
theorem one_drop {s : NS} (H : NInv s) {p : List UInt8} (h : findN s 1 p ≠ 0) : OneMore (inL s.L 1) (inL (goneS s 1 p).L 1) p := by
  obtain ⟨x, hx, h1, h2, _⟩ := find_some h
  refine ⟨(inL_drop 1 p s.L).symm, ?_⟩
  have := inL_drop_len H.srt hx
  rw [h1, h2] at this
  exact this
theorem one_unlink {s : NS} (H : NInv s) {p : List UInt8} (hp : ∀ c ∈ p, c ≠ 47) : (unlinkE s 1 p ≠ 0 → unlinkS s 1 p = s) ∧ (unlinkE s 1 p = 0 → OneMore (inL s.L 1) (inL (unlinkS s 1 p).L 1) p) := by
  refine ⟨fun h => by unfold unlinkS; rw [if_neg h], fun h => ?_⟩
  unfold unlinkS
  rw [if_pos h]
  unfold unlinkE at h
  by_cases h1 : (placeN s 1 p).2.2 ≠ 0
  · rw [if_pos h1] at h; exact absurd h h1
  · rw [if_neg h1] at h
    obtain ⟨p1, p2⟩ := place_at H hp (by simpa using h1)
    rw [p1, p2] at h ⊢
    by_cases h2 : findN s 1 p = 0
    · rw [if_pos h2] at h; exact absurd h (by decide)
    · exact one_drop H h2
theorem one_rmdir {s : NS} (H : NInv s) {p : List UInt8} (hp : ∀ c ∈ p, c ≠ 47) : (rmdirE s 1 p ≠ 0 → rmdirS s 1 p = s) ∧ (rmdirE s 1 p = 0 → OneMore (inL s.L 1) (inL (rmdirS s 1 p).L 1) p) := by
  refine ⟨fun h => by unfold rmdirS; rw [if_neg h], fun h => ?_⟩
  unfold rmdirS
  rw [if_pos h]
  unfold rmdirE at h
  by_cases h1 : (placeN s 1 p).2.2 ≠ 0
  · rw [if_pos h1] at h; exact absurd h h1
  · rw [if_neg h1] at h
    obtain ⟨p1, p2⟩ := place_at H hp (by simpa using h1)
    rw [p1, p2] at h ⊢
    by_cases h2 : findN s 1 p = 0
    · rw [if_pos h2] at h; exact absurd h (by decide)
    · exact one_drop H h2
/-- What the law asks of a call. -/
theorem one_do {s s' : NS} (H : NInv s) {o : Op13} {nb : Nat} {N E : Int} (hp : ∀ c ∈ o.path, c ≠ 47) (hd : o.dir = 1) (ha : o.ask = 0 ∨ o.ask = 1 ∨ o.ask = 4 ∨ o.ask = 5) (h : DoN s nb o N E s') : (E ≠ 0 → s' = s) ∧ (E = 0 → (o.ask < 2 → OneMore (inL s'.L 1) (inL s.L 1) o.path) ∧ (¬ o.ask < 2 → OneMore (inL s.L 1) (inL s'.L 1) o.path)) := by
  rcases ha with ha | ha | ha | ha
  · have h1 := h.make ha
    rw [hd] at h1
    obtain ⟨e1, e2⟩ := one_made H hp h1
    exact ⟨e1, fun e => ⟨fun _ => e2 e, fun h => absurd (by rw [ha]; decide) h⟩⟩
  · obtain ⟨N', h1⟩ := h.mkdir ha
    rw [hd] at h1
    obtain ⟨e1, e2⟩ := one_made H hp h1
    exact ⟨e1, fun e => ⟨fun _ => e2 e, fun h => absurd (by rw [ha]; decide) h⟩⟩
  · obtain ⟨rfl, rfl⟩ := h.unlink ha
    rw [hd]
    obtain ⟨e1, e2⟩ := one_unlink H hp
    exact ⟨e1, fun e => ⟨fun h => absurd h (by rw [ha]; decide), fun _ => e2 e⟩⟩
  · obtain ⟨rfl, rfl⟩ := h.rmdir ha
    rw [hd]
    obtain ⟨e1, e2⟩ := one_rmdir H hp
    exact ⟨e1, fun e => ⟨fun h => absurd h (by rw [ha]; decide), fun _ => e2 e⟩⟩
/-- The loop over the longer row. -/
theorem more_at {long short : List (List UInt8)} {p : List UInt8} (h : OneMore long short p) {i : Nat} {t : List UInt8} (hi : long[i]? = some t) (ht : t ≠ p) : short[((long.take i).filter (fun t => decide (t ≠ p))).length]? = some t := by
  obtain ⟨h1, _⟩ := h
  rw [← h1]
  have hlt : i < long.length := (List.getElem?_eq_some_iff.1 hi).1
  have e : long = long.take i ++ t :: long.drop (i + 1) := by
    rw [show t = long[i] from ((List.getElem?_eq_some_iff.1 hi).2).symm, ← List.drop_eq_getElem_cons hlt, List.take_append_drop]
  conv => lhs; arg 1; rw [e]
  rw [List.filter_append, List.filter_cons_of_pos (by simpa using ht), List.getElem?_append_right (Nat.le_refl _)]
  simp
theorem take_more {long : List (List UInt8)} {p : List UInt8} {i : Nat} {t : List UInt8} (hi : long[i]? = some t) : ((long.take (i + 1)).filter (fun t => decide (t ≠ p))).length = ((long.take i).filter (fun t => decide (t ≠ p))).length + (if t = p then 0 else 1) := by
  have hlt : i < long.length := (List.getElem?_eq_some_iff.1 hi).1
  rw [List.take_succ_eq_append_getElem hlt, show long[i] = t from (List.getElem?_eq_some_iff.1 hi).2, List.filter_append, List.length_append]
  by_cases h : t = p
  · rw [List.filter_cons_of_neg (by simpa using h), if_pos h]; rfl
  · rw [List.filter_cons_of_pos (by simpa using h), if_neg h]; rfl

end Go.Proofs.YtghidcohgkajaaaGreatDoor

/-
  Directories (stage 13): a path's parts, as the library cuts it.
  Directories (stage 13): a walk from a directory leads to a node that is there.
-/
import Derived.Test.YtemologkibcdoaaGreatDoorM14
import Derived.Lib.Split
import Derived.Test.YtemologkibcdoaaGreatDoorM13

/- Directories (stage 13): a path's parts, as the library cuts it. -/
namespace Go.Proofs.YtemologkibcdoaaGreatDoor
open Go.RowKit Go.Maps

theorem index_one (c : UInt8) (l : List UInt8) : Lib.index (c :: l) [47] = if c = 47 then 0 else if Lib.index l [47] = -1 then -1 else Lib.index l [47] + 1 := by
  have e : Lib.index (c :: l) [47] = if List.isPrefixOf [47] (c :: l) then 0 else if Lib.index l [47] == -1 then -1 else Lib.index l [47] + 1 := by rw [Lib.index]
  rw [e]
  by_cases h : c = 47
  · subst h
    simp
  · have h1 : (List.isPrefixOf [47] (c :: l)) = false := by simp [List.isPrefixOf]; exact fun e => h e.symm
    rw [h1]
    simp only [Bool.false_eq_true, if_false, if_neg h, beq_iff_eq]
theorem split_hit {s : List UInt8} {i : Nat} (h : Lib.index s [47] = i) : Lib.split s [47] = s.take i :: Lib.split (s.drop (i + 1)) [47] := by
  have hc : Lib.count s [47] = 1 + Lib.count (s.drop (i + 1)) [47] := Lib.count_hit (by simp) h
  unfold Lib.split
  rw [hc, Nat.add_comm 1, Lib.splitK]
  rw [if_neg (by rw [h]; simp), h]
  simp
theorem split_miss {s : List UInt8} (h : Lib.index s [47] = -1) : Lib.split s [47] = [s] := by
  unfold Lib.split
  rw [Lib.count_miss h]
  rfl
theorem parts_split : ∀ s : List UInt8, Lib.split s [47] = partsOf s
  | [] => by rw [split_miss rfl]; rfl
  | c :: l => by
    have ih := parts_split l
    have hi := index_one c l
    by_cases h : c = 47
    · subst h
      rw [if_pos rfl] at hi
      rw [split_hit (i := 0) hi]
      show [] :: Lib.split l [47] = (if (47 : UInt8) = 47 then [] :: partsOf l else _)
      rw [if_pos rfl, ih]
    · rw [if_neg h] at hi
      show _ = (if c = 47 then [] :: partsOf l else match partsOf l with | [] => [[c]] | p :: ps => (c :: p) :: ps)
      rw [if_neg h, ← ih]
      by_cases h1 : Lib.index l [47] = -1
      · rw [if_pos h1] at hi
        rw [split_miss hi, split_miss h1]
      · rw [if_neg h1] at hi
        obtain ⟨i, hii⟩ : ∃ i : Nat, Lib.index l [47] = i := ⟨(Lib.index l [47]).toNat, by have := Lib.index_ge l [47]; omega⟩
        rw [hii] at hi
        rw [split_hit (i := i + 1) (by rw [hi]; simp), split_hit hii]
        rfl
theorem parts_ne (s : List UInt8) : partsOf s ≠ [] := by
  cases s with
  | nil => exact List.cons_ne_nil _ _
  | cons c l =>
    show (if c = 47 then [] :: partsOf l else match partsOf l with | [] => [[c]] | p :: ps => (c :: p) :: ps) ≠ []
    split
    · exact List.cons_ne_nil _ _
    · split <;> exact List.cons_ne_nil _ _
theorem parts_len (s : List UInt8) : (partsOf s).length ≤ s.length + 1 ∧ ∀ p ∈ partsOf s, p.length ≤ s.length := by
  induction s with
  | nil => exact ⟨Nat.le_refl _, fun p hp => by simp [partsOf] at hp; simp [hp]⟩
  | cons c l ih =>
    have e : partsOf (c :: l) = (if c = 47 then [] :: partsOf l else match partsOf l with | [] => [[c]] | p :: ps => (c :: p) :: ps) := rfl
    rw [e]
    split
    · refine ⟨by simp; exact ih.1, fun p hp => ?_⟩
      rcases List.mem_cons.1 hp with rfl | hp
      · simp
      · have := ih.2 p hp
        simp; omega
    · cases hl : partsOf l with
      | nil => exact absurd hl (parts_ne l)
      | cons q ps =>
        rw [hl] at ih
        refine ⟨by simp at ih ⊢; omega, fun p hp => ?_⟩
        have h1 := ih.2
        rcases List.mem_cons.1 hp with rfl | hp
        · have := h1 q List.mem_cons_self
          simp; omega
        · have := h1 p (List.mem_cons_of_mem _ hp)
          simp; omega
/-- A part has no stroke in it. -/
theorem parts_no (s : List UInt8) : ∀ p ∈ partsOf s, ∀ c ∈ p, c ≠ 47 := by
  induction s with
  | nil => intro p hp c hc; simp [partsOf] at hp; rw [hp] at hc; cases hc
  | cons d l ih =>
    have e : partsOf (d :: l) = (if d = 47 then [] :: partsOf l else match partsOf l with | [] => [[d]] | p :: ps => (d :: p) :: ps) := rfl
    rw [e]
    split
    · intro p hp c hc
      rcases List.mem_cons.1 hp with rfl | hp
      · cases hc
      · exact ih p hp c hc
    · rename_i hd
      cases hl : partsOf l with
      | nil => exact absurd hl (parts_ne l)
      | cons q ps =>
        rw [hl] at ih
        intro p hp c hc
        rcases List.mem_cons.1 hp with rfl | hp
        · rcases List.mem_cons.1 hc with rfl | hc
          · exact hd
          · exact ih q List.mem_cons_self c hc
        · exact ih p (List.mem_cons_of_mem _ hp) c hc
/-- The last part of what ends with a stroke is empty. -/
theorem parts_snoc (s : List UInt8) : ∃ ps, partsOf (s ++ [47]) = ps ++ [[]] ∧ ps ≠ [] := by
  induction s with
  | nil => exact ⟨[[]], rfl, by simp⟩
  | cons c l ih =>
    obtain ⟨ps, h, hne⟩ := ih
    have e : partsOf (c :: l ++ [47]) = (if c = 47 then [] :: partsOf (l ++ [47]) else match partsOf (l ++ [47]) with | [] => [[c]] | p :: ps => (c :: p) :: ps) := rfl
    rw [e, h]
    split
    · exact ⟨[] :: ps, rfl, by simp⟩
    · cases ps with
      | nil => exact absurd rfl hne
      | cons q ps => exact ⟨(c :: q) :: ps, rfl, by simp⟩
theorem loop_last {s : NS} {go : Int → List UInt8 → Nat → Int × Int × Nat} {f : Bool} : ∀ (ps : List (List UInt8)) (a : Int) (r : Nat), (loopN go s f (ps ++ [[]]) a r).2.1 = 0 → isD s (loopN go s f (ps ++ [[]]) a r).1 = true
  | [], a, r, h => by
    have e : loopN go s f ([] ++ [[]]) a r = if isD s a = false then (0, 25, r) else (a, 0, r) := by
      show stepN go s a [] f r = _
      unfold stepN
      split
      · rfl
      · rw [if_pos (.inl rfl)]
    rw [e] at h ⊢
    by_cases h1 : isD s a = false
    · rw [if_pos h1] at h; cases h
    · rw [if_neg h1]
      simpa using h1
  | p :: ps, a, r, h => by
    cases hq : ps ++ [[]] with
    | nil => simp at hq
    | cons q qs =>
      have e : loopN go s f (p :: ps ++ [[]]) a r = if (stepN go s a p true r).2.1 ≠ 0 then stepN go s a p true r else loopN go s f (ps ++ [[]]) (stepN go s a p true r).1 (stepN go s a p true r).2.2 := by
        rw [List.cons_append, hq]
        rfl
      rw [e] at h ⊢
      by_cases h1 : (stepN go s a p true r).2.1 ≠ 0
      · rw [if_pos h1] at h; exact absurd h h1
      · rw [if_neg h1] at h ⊢
        exact loop_last ps _ _ h
/-- A walk of a path that ends with a stroke leads to a directory. -/
theorem goes_dir {s : NS} {n : Nat} {a : Int} {p : List UInt8} {f : Bool} {r : Nat} (h : (goesN s n a (p ++ [47]) f r).2.1 = 0) : isD s (goesN s n a (p ++ [47]) f r).1 = true := by
  have key : ∀ go, (loopN go s f (partsOf (p ++ [47])) a r).2.1 = 0 → isD s (loopN go s f (partsOf (p ++ [47])) a r).1 = true := fun go => by
    obtain ⟨ps, e, _⟩ := parts_snoc p
    rw [e]
    exact loop_last ps a r
  have keyt : ∀ go, (loopN go s f (partsOf (p ++ [47]).tail) 1 r).2.1 = 0 → isD s (loopN go s f (partsOf (p ++ [47]).tail) 1 r).1 = true := fun go => by
    cases p with
    | nil => exact loop_last [] 1 r
    | cons c l =>
      obtain ⟨ps, e, _⟩ := parts_snoc l
      show (loopN go s f (partsOf (l ++ [47])) 1 r).2.1 = 0 → isD s (loopN go s f (partsOf (l ++ [47])) 1 r).1 = true
      rw [e]
      exact loop_last ps 1 r
  have hne : p ++ [47] ≠ [] := by simp
  cases n with
  | zero =>
    unfold goesN at h ⊢
    rw [if_neg hne] at h ⊢
    by_cases h2 : 256 < (p ++ [47]).length
    · rw [if_pos h2] at h; cases h
    · rw [if_neg h2] at h ⊢
      by_cases h3 : (p ++ [47]).head? = some 47
      · rw [if_pos h3] at h ⊢; exact keyt _ h
      · rw [if_neg h3] at h ⊢; exact key _ h
  | succ n =>
    unfold goesN at h ⊢
    rw [if_neg hne] at h ⊢
    by_cases h2 : 256 < (p ++ [47]).length
    · rw [if_pos h2] at h; cases h
    · rw [if_neg h2] at h ⊢
      by_cases h3 : (p ++ [47]).head? = some 47
      · rw [if_pos h3] at h ⊢; exact keyt _ h
      · rw [if_neg h3] at h ⊢; exact key _ h
/-- A path is its parts ahead of the last one, and the last one. -/
theorem ahead_last (p : List UInt8) : aheadN p ++ lastN p = p := by
  unfold aheadN lastN
  rw [← List.reverse_append, List.takeWhile_append_dropWhile, List.reverse_reverse]
theorem last_no (p : List UInt8) : ∀ c ∈ lastN p, c ≠ 47 := by
  intro c hc
  unfold lastN at hc
  have := List.all_eq_true.1 (List.all_takeWhile (p := fun c => decide (c ≠ 47)) (l := p.reverse)) c (List.mem_reverse.1 hc)
  simpa using this
theorem ahead_snoc {p : List UInt8} (h : aheadN p ≠ []) : ∃ q, aheadN p = q ++ [47] := by
  unfold aheadN at h ⊢
  cases hd : p.reverse.dropWhile (fun c => decide (c ≠ 47)) with
  | nil => rw [hd] at h; exact absurd rfl h
  | cons c l =>
    have := List.head_dropWhile_not (p := fun c => decide (c ≠ 47)) (l := p.reverse) (by rw [hd]; exact List.cons_ne_nil _ _)
    simp only [hd, List.head_cons] at this
    have hc : c = 47 := by simpa using this
    subst hc
    exact ⟨l.reverse, by simp⟩

end Go.Proofs.YtemologkibcdoaaGreatDoor

/- Directories (stage 13): a walk from a directory leads to a node that is there. -/
namespace Go.Proofs.YtemologkibcdoaaGreatDoor
open Go.RowKit Go.Maps

def There (s : NS) (i : Int) : Prop := ∃ x, ndAt s.T i = some x
theorem there_kd {s : NS} {i : Int} (h : kdI s.T i ≠ 0) : There s i := by
  unfold kdI at h
  cases hx : ndAt s.T i with
  | none => rw [hx] at h; exact absurd rfl h
  | some x => exact ⟨x, hx⟩
theorem there_nm {s : NS} {i : Int} (h : 1 ≤ nmI s.T i) : There s i := by
  unfold nmI at h
  cases hx : ndAt s.T i with
  | none => rw [hx] at h; exact absurd h (by simp [namesOf])
  | some x => exact ⟨x, hx⟩
/-- Each directory's parent is there, or it has none. -/
def UpOk (s : NS) : Prop := ∀ d, kdI s.T d = 2 → s.par d = 0 ∨ kdI s.T (s.par d) = 2
/-- A way that, from what is there, leads to what is there. -/
def Stays (s : NS) (go : Int → List UInt8 → Nat → Int × Int × Nat) : Prop := ∀ a t r, There s a → (go a t r).2.1 = 0 → There s (go a t r).1
theorem step_stays {s : NS} (H : NInv s) (U : UpOk s) {go : Int → List UInt8 → Nat → Int × Int × Nat} (hg : Stays s go) {a : Int} {p : List UInt8} {f : Bool} {r : Nat} (ha : There s a) (h : (stepN go s a p f r).2.1 = 0) : There s (stepN go s a p f r).1 := by
  unfold stepN at h ⊢
  by_cases h1 : isD s a = false
  · rw [if_pos h1] at h; cases h
  · rw [if_neg h1] at h ⊢
    by_cases h2 : p = [] ∨ p = [46]
    · rw [if_pos h2]; exact ha
    · rw [if_neg h2] at h ⊢
      by_cases h3 : p = [46, 46]
      · rw [if_pos h3] at h ⊢
        by_cases h0 : s.par a = 0
        · rw [if_pos h0] at h; cases h
        · rw [if_neg h0]
          have h4 : isD s a = true := by simpa using h1
          have h5 := (U a (of_decide_eq_true h4)).resolve_left h0
          exact there_kd (i := s.par a) (by rw [h5]; decide)
      · rw [if_neg h3] at h ⊢
        by_cases h4 : 32 < p.length
        · rw [if_pos h4] at h; cases h
        · rw [if_neg h4] at h ⊢
          by_cases h5 : findN s a p = 0
          · rw [if_pos h5] at h; cases h
          · rw [if_neg h5] at h ⊢
            by_cases h6 : kd s (findN s a p) ≠ 3 ∨ f = false
            · rw [if_pos h6]
              obtain ⟨x, hx, _, _, e⟩ := find_some h5
              show There s (findN s a p)
              rw [← e]
              exact there_nm (NV.node1 H.names hx)
            · rw [if_neg h6] at h ⊢
              by_cases h7 : r = 0
              · rw [if_pos h7] at h; cases h
              · rw [if_neg h7] at h ⊢
                exact hg _ _ _ ha h
theorem loop_stays {s : NS} (H : NInv s) (U : UpOk s) {go : Int → List UInt8 → Nat → Int × Int × Nat} (hg : Stays s go) {f : Bool} : ∀ (ps : List (List UInt8)) (a : Int) (r : Nat), There s a → (loopN go s f ps a r).2.1 = 0 → There s (loopN go s f ps a r).1
  | [], a, r, ha, _ => ha
  | [p], a, r, ha, h => step_stays H U hg ha h
  | p :: q :: ps, a, r, ha, h => by
    unfold loopN at h ⊢
    by_cases h1 : (stepN go s a p true r).2.1 ≠ 0
    · rw [if_pos h1] at h; exact absurd h h1
    · rw [if_neg h1] at h ⊢
      exact loop_stays H U hg (q :: ps) _ _ (step_stays H U hg ha (by simpa using h1)) h
theorem goes_stays {s : NS} (H : NInv s) (U : UpOk s) : ∀ (n : Nat) (f : Bool), Stays s (fun a t r => goesN s n a t f r) := by
  have hroot : There s 1 := there_nm (NV.nm1 H)
  intro n
  induction n with
  | zero =>
    intro f a t r ha h
    have hz : Stays s (fun _ _ r => (0, 27, r)) := fun _ _ _ _ h => by cases h
    dsimp only at h ⊢
    unfold goesN at h ⊢
    by_cases h1 : t = []
    · rw [if_pos h1] at h; cases h
    · rw [if_neg h1] at h ⊢
      by_cases h2 : 256 < t.length
      · rw [if_pos h2] at h; cases h
      · rw [if_neg h2] at h ⊢
        by_cases h3 : t.head? = some 47
        · rw [if_pos h3] at h ⊢
          exact loop_stays H U hz _ _ _ hroot h
        · rw [if_neg h3] at h ⊢
          exact loop_stays H U hz _ _ _ ha h
  | succ n ih =>
    intro f a t r ha h
    have hz := ih true
    dsimp only at h ⊢
    unfold goesN at h ⊢
    by_cases h1 : t = []
    · rw [if_pos h1] at h; cases h
    · rw [if_neg h1] at h ⊢
      by_cases h2 : 256 < t.length
      · rw [if_pos h2] at h; cases h
      · rw [if_neg h2] at h ⊢
        by_cases h3 : t.head? = some 47
        · rw [if_pos h3] at h ⊢
          exact loop_stays H U hz _ _ _ hroot h
        · rw [if_neg h3] at h ⊢
          exact loop_stays H U hz _ _ _ ha h
/-- From a directory a walk leads to a node that is there. -/
theorem walk_there {s : NS} (H : NInv s) (U : UpOk s) {dir : Int} {p : List UInt8} {f : Bool} (h : (walkN s dir p f).2 = 0) : ∃ x, ndAt s.T (walkN s dir p f).1 = some x := by
  unfold walkN at h ⊢
  by_cases h1 : isD s dir = true
  · rw [if_pos h1] at h ⊢
    exact goes_stays H U 8 f dir p 8 (there_kd (by have : kdI s.T dir = 2 := of_decide_eq_true h1; rw [this]; decide)) h
  · rw [if_neg h1] at h; cases h
theorem MadeSp.uniq {s s1 s2 : NS} {nb : Nat} {dir kind N1 E1 N2 E2 : Int} {p d : List UInt8} (h1 : MadeSp s nb dir p kind d N1 E1 s1) (h2 : MadeSp s nb dir p kind d N2 E2 s2) : N1 = N2 ∧ E1 = E2 ∧ s1 = s2 := by
  cases h1 with
  | bad a1 =>
    cases h2 with
    | bad => exact ⟨rfl, rfl, rfl⟩
    | nodes b1 => exact absurd b1 a1
    | space _ _ _ _ b1 => exact absurd b1 a1
    | done _ _ _ _ b1 => exact absurd b1 a1
  | nodes a1 a2 =>
    cases h2 with
    | bad b1 => exact absurd a1 b1
    | nodes => exact ⟨rfl, rfl, rfl⟩
    | space _ _ _ _ _ b2 => exact absurd b2 a2
    | done _ _ _ _ _ b2 => exact absurd b2 a2
  | space N E T1 T2 a1 a2 a3 a4 a5 =>
    cases h2 with
    | bad b1 => exact absurd a1 b1
    | nodes _ b2 => exact absurd a2 b2
    | space N' E' T1' T2' _ _ b3 b4 =>
      subst a3
      subst b3
      obtain ⟨_, _, rfl⟩ := a4.uniq b4
      exact ⟨rfl, rfl, rfl⟩
    | done N' _ T1' T2' _ _ b3 b4 b5 =>
      subst a3
      subst b3
      obtain ⟨rfl, _, _⟩ := a4.uniq b4
      omega
  | done N _ T1 T2 a1 a2 a3 a4 a5 =>
    cases h2 with
    | bad b1 => exact absurd a1 b1
    | nodes _ b2 => exact absurd a2 b2
    | space N' E' T1' T2' _ _ b3 b4 b5 =>
      subst a3
      subst b3
      obtain ⟨rfl, _, _⟩ := a4.uniq b4
      omega
    | done N' _ T1' T2' _ _ b3 b4 b5 =>
      subst a3
      subst b3
      obtain ⟨_, rfl, rfl⟩ := a4.uniq b4
      exact ⟨rfl, rfl, rfl⟩

end Go.Proofs.YtemologkibcdoaaGreatDoor

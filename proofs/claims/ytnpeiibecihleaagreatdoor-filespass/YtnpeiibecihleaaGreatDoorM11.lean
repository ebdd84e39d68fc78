/-
  Directories (stage 13): a path's parts, as the library cuts it.
  Directories (stage 13): a walk from a directory leads to a node that is there.
  Directories (stage 13) in memory.
-/
import Derived.Test.YtnpeiibecihleaaGreatDoorM09
import Derived.Lib.Split
import Derived.Test.YtnpeiibecihleaaGreatDoorM10
import Derived.Lib.SmallJoins
import Derived.Test.YtnpeiibecihleaaGreatDoorM05
/- Directories (stage 13): a path's parts, as the library cuts it. -/
namespace Go.Proofs.YtnpeiibecihleaaGreatDoor
open Go.RowKit Go.Maps

theorem index_one (c : UInt8) (l : List UInt8) : Lib.index (c :: l) [47] = if c = 47 then 0 else if Lib.index l [47] = -1 then -1 else Lib.index l [47] + 1 := by
  have e : Lib.index (c :: l) [47] = if List.isPrefixOf [47] (c :: l) then 0 else if Lib.index l [47] == -1 then -1 else Lib.index l [47] + 1 := by rw [Lib.index]
  rw [e]
  by_cases h : c = 47
  · subst h
    simp
  · have h1 : (List.isPrefixOf [47] (c :: l)) = false := by simp [List.isPrefixOf]; exact fun e => h e.symm
    rw [h1]
    simp only [Bool.false_eq_true, if_false, if_neg h, beq_iff_eq]
theorem split_hit {s : List UInt8} {i : Nat} (h : Lib.index s [47] = i) : Lib.split s [47] = s.take i :: Lib.split (s.drop (i + 1)) [47] := by
  have hc : Lib.count s [47] = 1 + Lib.count (s.drop (i + 1)) [47] := Lib.count_hit (by simp) h
  unfold Lib.split
  rw [hc, Nat.add_comm 1, Lib.splitK]
  rw [if_neg (by rw [h]; simp), h]
  simp
theorem split_miss {s : List UInt8} (h : Lib.index s [47] = -1) : Lib.split s [47] = [s] := by
  unfold Lib.split
  rw [Lib.count_miss h]
  rfl
theorem parts_split : ∀ s : List UInt8, Lib.split s [47] = partsOf s
  | [] => by rw [split_miss rfl]; rfl
  | c :: l => by
    have ih := parts_split l
    have hi := index_one c l
    by_cases h : c = 47
    · subst h
      rw [if_pos rfl] at hi
      rw [split_hit (i := 0) hi]
      show [] :: Lib.split l [47] = (if (47 : UInt8) = 47 then [] :: partsOf l else _)
      rw [if_pos rfl, ih]
    · rw [if_neg h] at hi
      show _ = (if c = 47 then [] :: partsOf l else match partsOf l with | [] => [[c]] | p :: ps => (c :: p) :: ps)
      rw [if_neg h, ← ih]
      by_cases h1 : Lib.index l [47] = -1
      · rw [if_pos h1] at hi
        rw [split_miss hi, split_miss h1]
      · rw [if_neg h1] at hi
        obtain ⟨i, hii⟩ : ∃ i : Nat, Lib.index l [47] = i := ⟨(Lib.index l [47]).toNat, by have := Lib.index_ge l [47]; omega⟩
        rw [hii] at hi
        rw [split_hit (i := i + 1) (by rw [hi]; simp), split_hit hii]
        rfl
theorem parts_ne (s : List UInt8) : partsOf s ≠ [] := by
  cases s with
  | nil => exact List.cons_ne_nil _ _
  | cons c l =>
    show (if c = 47 then [] :: partsOf l else match partsOf l with | [] => [[c]] | p :: ps => (c :: p) :: ps) ≠ []
    split
    · exact List.cons_ne_nil _ _
    · split <;> exact List.cons_ne_nil _ _
theorem parts_len (s : List UInt8) : (partsOf s).length ≤ s.length + 1 ∧ ∀ p ∈ partsOf s, p.length ≤ s.length := by
  induction s with
  | nil => exact ⟨Nat.le_refl _, fun p hp => by simp [partsOf] at hp; simp [hp]⟩
  | cons c l ih =>
    have e : partsOf (c :: l) = (if c = 47 then [] :: partsOf l else match partsOf l with | [] => [[c]] | p :: ps => (c :: p) :: ps) := rfl
    rw [e]
    split
    · refine ⟨by simp; exact ih.1, fun p hp => ?_⟩
      rcases List.mem_cons.1 hp with rfl | hp
      · simp
      · have := ih.2 p hp
        simp; omega
    · cases hl : partsOf l with
      | nil => exact absurd hl (parts_ne l)
      | cons q ps =>
        rw [hl] at ih
        refine ⟨by simp at ih ⊢; omega, fun p hp => ?_⟩
        have h1 := ih.2
        rcases List.mem_cons.1 hp with rfl | hp
        · have := h1 q List.mem_cons_self
          simp; omega
        · have := h1 p (List.mem_cons_of_mem _ hp)
          simp; omega
/-- A part has no stroke in it. -/
theorem parts_no (s : List UInt8) : ∀ p ∈ partsOf s, ∀ c ∈ p, c ≠ 47 := by
  induction s with
  | nil => intro p hp c hc; simp [partsOf] at hp; rw [hp] at hc; cases hc
  | cons d l ih =>
    have e : partsOf (d :: l) = (if d = 47 then [] :: partsOf l else match partsOf l with | [] => [[d]] | p :: ps => (d :: p) :: ps) := rfl
    rw [e]
    split
    · intro p hp c hc
      rcases List.mem_cons.1 hp with rfl | hp
      · cases hc
      · exact ih p hp c hc
    · rename_i hd
      cases hl : partsOf l with
      | nil => exact absurd hl (parts_ne l)
      | cons q ps =>
        rw [hl] at ih
        intro p hp c hc
        rcases List.mem_cons.1 hp with rfl | hp
        · rcases List.mem_cons.1 hc with rfl | hc
          · exact hd
          · exact ih q List.mem_cons_self c hc
        · exact ih p (List.mem_cons_of_mem _ hp) c hc
/-- The last part of what ends with a stroke is empty. -/
theorem parts_snoc (s : List UInt8) : ∃ ps, partsOf (s ++ [47]) = ps ++ [[]] ∧ ps ≠ [] := by
  induction s with
  | nil => exact ⟨[[]], rfl, by simp⟩
  | cons c l ih =>
    obtain ⟨ps, h, hne⟩ := ih
    have e : partsOf (c :: l ++ [47]) = (if c = 47 then [] :: partsOf (l ++ [47]) else match partsOf (l ++ [47]) with | [] => [[c]] | p :: ps => (c :: p) :: ps) := rfl
    rw [e, h]
    split
    · exact ⟨[] :: ps, rfl, by simp⟩
    · cases ps with
      | nil => exact absurd rfl hne
      | cons q ps => exact ⟨(c :: q) :: ps, rfl, by simp⟩
theorem loop_last {s : NS} {go : Int → List UInt8 → Nat → Int × Int × Nat} {f : Bool} : ∀ (ps : List (List UInt8)) (a : Int) (r : Nat), (loopN go s f (ps ++ [[]]) a r).2.1 = 0 → isD s (loopN go s f (ps ++ [[]]) a r).1 = true
  | [], a, r, h => by
    have e : loopN go s f ([] ++ [[]]) a r = if isD s a = false then (0, 25, r) else (a, 0, r) := by
      show stepN go s a [] f r = _
      unfold stepN
      split
      · rfl
      · rw [if_pos (.inl rfl)]
    rw [e] at h ⊢
    by_cases h1 : isD s a = false
    · rw [if_pos h1] at h; cases h
    · rw [if_neg h1]
      simpa using h1
  | p :: ps, a, r, h => by
    cases hq : ps ++ [[]] with
    | nil => simp at hq
    | cons q qs =>
      have e : loopN go s f (p :: ps ++ [[]]) a r = if (stepN go s a p true r).2.1 ≠ 0 then stepN go s a p true r else loopN go s f (ps ++ [[]]) (stepN go s a p true r).1 (stepN go s a p true r).2.2 := by
        rw [List.cons_append, hq]
        rfl
      rw [e] at h ⊢
      by_cases h1 : (stepN go s a p true r).2.1 ≠ 0
      · rw [if_pos h1] at h; exact absurd h h1
      · rw [if_neg h1] at h ⊢
        exact loop_last ps _ _ h
/-- A walk of a path that ends with a stroke leads to a directory. -/
theorem goes_dir {s : NS} {n : Nat} {a : Int} {p : List UInt8} {f : Bool} {r : Nat} (h : (goesN s n a (p ++ [47]) f r).2.1 = 0) : isD s (goesN s n a (p ++ [47]) f r).1 = true := by
  have key : ∀ go, (loopN go s f (partsOf (p ++ [47])) a r).2.1 = 0 → isD s (loopN go s f (partsOf (p ++ [47])) a r).1 = true := fun go => by
    obtain ⟨ps, e, _⟩ := parts_snoc p
    rw [e]
    exact loop_last ps a r
  have keyt : ∀ go, (loopN go s f (partsOf (p ++ [47]).tail) 1 r).2.1 = 0 → isD s (loopN go s f (partsOf (p ++ [47]).tail) 1 r).1 = true := fun go => by
    cases p with
    | nil => exact loop_last [] 1 r
    | cons c l =>
      obtain ⟨ps, e, _⟩ := parts_snoc l
      show (loopN go s f (partsOf (l ++ [47])) 1 r).2.1 = 0 → isD s (loopN go s f (partsOf (l ++ [47])) 1 r).1 = true
      rw [e]
      exact loop_last ps 1 r
  have hne : p ++ [47] ≠ [] := by simp
  cases n with
  | zero =>
    unfold goesN at h ⊢
    rw [if_neg hne] at h ⊢
    by_cases h2 : 256 < (p ++ [47]).length
    · rw [if_pos h2] at h; cases h
    · rw [if_neg h2] at h ⊢
      by_cases h3 : (p ++ [47]).head? = some 47
      · rw [if_pos h3] at h ⊢; exact keyt _ h
      · rw [if_neg h3] at h ⊢; exact key _ h
  | succ n =>
    unfold goesN at h ⊢
    rw [if_neg hne] at h ⊢
    by_cases h2 : 256 < (p ++ [47]).length
    · rw [if_pos h2] at h; cases h
    · rw [if_neg h2] at h ⊢
      by_cases h3 : (p ++ [47]).head? = some 47
      · rw [if_pos h3] at h ⊢; exact keyt _ h
      · rw [if_neg h3] at h ⊢; exact key _ h
/-- A path is its parts ahead of the last one, and the last one. -/
theorem ahead_last (p : List UInt8) : aheadN p ++ lastN p = p := by
  unfold aheadN lastN
  rw [← List.reverse_append, List.takeWhile_append_dropWhile, List.reverse_reverse]
theorem last_no (p : List UInt8) : ∀ c ∈ lastN p, c ≠ 47 := by
  intro c hc
  unfold lastN at hc
  have := List.all_eq_true.1 (List.all_takeWhile (p := fun c => decide (c ≠ 47)) (l := p.reverse)) c (List.mem_reverse.1 hc)
  simpa using this
theorem ahead_snoc {p : List UInt8} (h : aheadN p ≠ []) : ∃ q, aheadN p = q ++ [47] := by
  unfold aheadN at h ⊢
  cases hd : p.reverse.dropWhile (fun c => decide (c ≠ 47)) with
  | nil => rw [hd] at h; exact absurd rfl h
  | cons c l =>
    have := List.head_dropWhile_not (p := fun c => decide (c ≠ 47)) (l := p.reverse) (by rw [hd]; exact List.cons_ne_nil _ _)
    simp only [hd, List.head_cons] at this
    have hc : c = 47 := by simpa using this
    subst hc
    exact ⟨l.reverse, by simp⟩

end Go.Proofs.YtnpeiibecihleaaGreatDoor

/- Directories (stage 13): a walk from a directory leads to a node that is there. -/
namespace Go.Proofs.YtnpeiibecihleaaGreatDoor
open Go.RowKit Go.Maps

def There (s : NS) (i : Int) : Prop := ∃ x, ndAt s.T i = some x
theorem there_kd {s : NS} {i : Int} (h : kdI s.T i ≠ 0) : There s i := by
  unfold kdI at h
  cases hx : ndAt s.T i with
  | none => rw [hx] at h; exact absurd rfl h
  | some x => exact ⟨x, hx⟩
theorem there_nm {s : NS} {i : Int} (h : 1 ≤ nmI s.T i) : There s i := by
  unfold nmI at h
  cases hx : ndAt s.T i with
  | none => rw [hx] at h; exact absurd h (by simp [namesOf])
  | some x => exact ⟨x, hx⟩
/-- Each directory's parent is there, or it has none. -/
def UpOk (s : NS) : Prop := ∀ d, kdI s.T d = 2 → s.par d = 0 ∨ kdI s.T (s.par d) = 2
/-- A way that, from what is there, leads to what is there. -/
def Stays (s : NS) (go : Int → List UInt8 → Nat → Int × Int × Nat) : Prop := ∀ a t r, There s a → (go a t r).2.1 = 0 → There s (go a t r).1
theorem step_stays {s : NS} (H : NInv s) (U : UpOk s) {go : Int → List UInt8 → Nat → Int × Int × Nat} (hg : Stays s go) {a : Int} {p : List UInt8} {f : Bool} {r : Nat} (ha : There s a) (h : (stepN go s a p f r).2.1 = 0) : There s (stepN go s a p f r).1 := by
  unfold stepN at h ⊢
  by_cases h1 : isD s a = false
  · rw [if_pos h1] at h; cases h
  · rw [if_neg h1] at h ⊢
    by_cases h2 : p = [] ∨ p = [46]
    · rw [if_pos h2]; exact ha
    · rw [if_neg h2] at h ⊢
      by_cases h3 : p = [46, 46]
      · rw [if_pos h3] at h ⊢
        by_cases h0 : s.par a = 0
        · rw [if_pos h0] at h; cases h
        · rw [if_neg h0]
          have h4 : isD s a = true := by simpa using h1
          have h5 := (U a (of_decide_eq_true h4)).resolve_left h0
          exact there_kd (i := s.par a) (by rw [h5]; decide)
      · rw [if_neg h3] at h ⊢
        by_cases h4 : 32 < p.length
        · rw [if_pos h4] at h; cases h
        · rw [if_neg h4] at h ⊢
          by_cases h5 : findN s a p = 0
          · rw [if_pos h5] at h; cases h
          · rw [if_neg h5] at h ⊢
            by_cases h6 : kd s (findN s a p) ≠ 3 ∨ f = false
            · rw [if_pos h6]
              obtain ⟨x, hx, _, _, e⟩ := find_some h5
              show There s (findN s a p)
              rw [← e]
              exact there_nm (NV.node1 H.names hx)
            · rw [if_neg h6] at h ⊢
              by_cases h7 : r = 0
              · rw [if_pos h7] at h; cases h
              · rw [if_neg h7] at h ⊢
                exact hg _ _ _ ha h
theorem loop_stays {s : NS} (H : NInv s) (U : UpOk s) {go : Int → List UInt8 → Nat → Int × Int × Nat} (hg : Stays s go) {f : Bool} : ∀ (ps : List (List UInt8)) (a : Int) (r : Nat), There s a → (loopN go s f ps a r).2.1 = 0 → There s (loopN go s f ps a r).1
  | [], a, r, ha, _ => ha
  | [p], a, r, ha, h => step_stays H U hg ha h
  | p :: q :: ps, a, r, ha, h => by
    unfold loopN at h ⊢
    by_cases h1 : (stepN go s a p true r).2.1 ≠ 0
    · rw [if_pos h1] at h; exact absurd h h1
    · rw [if_neg h1] at h ⊢
      exact loop_stays H U hg (q :: ps) _ _ (step_stays H U hg ha (by simpa using h1)) h
theorem goes_stays {s : NS} (H : NInv s) (U : UpOk s) : ∀ (n : Nat) (f : Bool), Stays s (fun a t r => goesN s n a t f r) := by
  have hroot : There s 1 := there_nm (NV.nm1 H)
  intro n
  induction n with
  | zero =>
    intro f a t r ha h
    have hz : Stays s (fun _ _ r => (0, 27, r)) := fun _ _ _ _ h => by cases h
    dsimp only at h ⊢
    unfold goesN at h ⊢
    by_cases h1 : t = []
    · rw [if_pos h1] at h; cases h
    · rw [if_neg h1] at h ⊢
      by_cases h2 : 256 < t.length
      · rw [if_pos h2] at h; cases h
      · rw [if_neg h2] at h ⊢
        by_cases h3 : t.head? = some 47
        · rw [if_pos h3] at h ⊢
          exact loop_stays H U hz _ _ _ hroot h
        · rw [if_neg h3] at h ⊢
          exact loop_stays H U hz _ _ _ ha h
  | succ n ih =>
    intro f a t r ha h
    have hz := ih true
    dsimp only at h ⊢
    unfold goesN at h ⊢
    by_cases h1 : t = []
    · rw [if_pos h1] at h; cases h
    · rw [if_neg h1] at h ⊢
      by_cases h2 : 256 < t.length
      · rw [if_pos h2] at h; cases h
      · rw [if_neg h2] at h ⊢
        by_cases h3 : t.head? = some 47
        · rw [if_pos h3] at h ⊢
          exact loop_stays H U hz _ _ _ hroot h
        · rw [if_neg h3] at h ⊢
          exact loop_stays H U hz _ _ _ ha h
/-- From a directory a walk leads to a node that is there. -/
theorem walk_there {s : NS} (H : NInv s) (U : UpOk s) {dir : Int} {p : List UInt8} {f : Bool} (h : (walkN s dir p f).2 = 0) : ∃ x, ndAt s.T (walkN s dir p f).1 = some x := by
  unfold walkN at h ⊢
  by_cases h1 : isD s dir = true
  · rw [if_pos h1] at h ⊢
    exact goes_stays H U 8 f dir p 8 (there_kd (by have : kdI s.T dir = 2 := of_decide_eq_true h1; rw [this]; decide)) h
  · rw [if_neg h1] at h; cases h
theorem MadeSp.uniq {s s1 s2 : NS} {nb : Nat} {dir kind N1 E1 N2 E2 : Int} {p d : List UInt8} (h1 : MadeSp s nb dir p kind d N1 E1 s1) (h2 : MadeSp s nb dir p kind d N2 E2 s2) : N1 = N2 ∧ E1 = E2 ∧ s1 = s2 := by
  cases h1 with
  | bad a1 =>
    cases h2 with
    | bad => exact ⟨rfl, rfl, rfl⟩
    | nodes b1 => exact absurd b1 a1
    | space _ _ _ _ b1 => exact absurd b1 a1
    | done _ _ _ _ b1 => exact absurd b1 a1
  | nodes a1 a2 =>
    cases h2 with
    | bad b1 => exact absurd a1 b1
    | nodes => exact ⟨rfl, rfl, rfl⟩
    | space _ _ _ _ _ b2 => exact absurd b2 a2
    | done _ _ _ _ _ b2 => exact absurd b2 a2
  | space N E T1 T2 a1 a2 a3 a4 a5 =>
    cases h2 with
    | bad b1 => exact absurd a1 b1
    | nodes _ b2 => exact absurd a2 b2
    | space N' E' T1' T2' _ _ b3 b4 =>
      subst a3
      subst b3
      obtain ⟨_, _, rfl⟩ := a4.uniq b4
      exact ⟨rfl, rfl, rfl⟩
    | done N' _ T1' T2' _ _ b3 b4 b5 =>
      subst a3
      subst b3
      obtain ⟨rfl, _, _⟩ := a4.uniq b4
      omega
  | done N _ T1 T2 a1 a2 a3 a4 a5 =>
    cases h2 with
    | bad b1 => exact absurd a1 b1
    | nodes _ b2 => exact absurd a2 b2
    | space N' E' T1' T2' _ _ b3 b4 b5 =>
      subst a3
      subst b3
      obtain ⟨rfl, _, _⟩ := a4.uniq b4
      omega
    | done N' _ T1' T2' _ _ b3 b4 b5 =>
      subst a3
      subst b3
      obtain ⟨_, rfl, rfl⟩ := a4.uniq b4
      exact ⟨rfl, rfl, rfl⟩

end Go.Proofs.YtnpeiibecihleaaGreatDoor

/- Directories (stage 13) in memory. -/
namespace Go.Proofs.YtnpeiibecihleaaGreatDoor
open Go.RowKit Go.Maps

abbrev MapV (w : World) (k : TypeId) (m : Nat) (D : DataW Value) : Prop := w.ownsMap Tryz.prog k itself m (Maps.size D) D
theorem mapV_tight {w : World} {k : TypeId} {b n : Nat} {D : DataW Value} (h : w.ownsMap Tryz.prog k itself b n D) : MapV w k b D := by
  obtain ⟨es, clock, h1, h2, h3, rfl⟩ := h
  exact ⟨es, clock, h1, h2, by simp [Maps.size, length_sorted], rfl⟩
theorem mapV_grownS {w w' : World} {S : Nat → Prop} {k : TypeId} {b : Nat} {D : DataW Value} (h : MapV w k b D) (hg : GrownS w w' S) (hb : ¬ S b) : MapV w' k b D := by
  have hlt := h.lt
  obtain ⟨es, clock, h1, r⟩ := h
  exact ⟨es, clock, (hg.block b hlt hb).trans h1, r⟩
theorem blk_mapV {w : World} {a b : Nat} {t k : TypeId} {cs : Array Value} {D : DataW Value} (h : Blk w a t cs) (h2 : MapV w k b D) : a ≠ b := by
  rintro rfl
  obtain ⟨es, clock, hb, _⟩ := h2
  have h3 := (show w.heap[a]? = _ from h).symm.trans hb
  cases h3
def dirV (p : Int) (m : Nat) : Value := .agg #[.int .i64 p, .map (some m)]
/-- The map of directories. -/
structure DReads (D : DataW Value) (kd : Int → Nat) (par : Int → Int) (M : Int → Nat) : Prop where
  at' : ∀ d, kd d = 2 → ∀ z, D.atKey (.int .i64 d) z = .held (dirV (par d) (M d))
  no : ∀ d, kd d ≠ 2 → has D (.int .i64 d) = false
/-- What stays: the start's world; and of a later one all blocks but S. -/
structure Bas where
  w : World
  c : World
  S : Nat → Prop
def Bas.tn (B : Bas) (k : Nat) : Prop := B.w.heap.size ≤ k ∧ B.S k
def Bas.of (w : World) : Bas := ⟨w, w, fun k => w.heap.size ≤ k⟩
/-- What the library's calls read of the world. -/
def EnvB (w : World) (B : Bas) : Prop := (∃ m : Int, B.w.cell? ⟨0, 0, none⟩ = some (.int .i64 m)) ∧ Below B.w.heap.size B.w w ∧ GrownS B.c w B.S ∧ ∀ k, B.c.heap.size ≤ k → B.S k
/-- The powers of ten lie in the start's world. -/
def PowB (B : Bas) : Prop := Lib.TabIs Tryz.prog B.w "internal/strconv.uint64pow10" .u64 Lib.pow10Tab
theorem EnvB.bel {w : World} {B : Bas} (h : EnvB w B) : Below B.w.heap.size B.w w := h.2.1
theorem EnvB.kept {w : World} {B : Bas} (h : EnvB w B) : GrownS B.c w B.S := h.2.2.1
theorem EnvB.below {w w' : World} {B : Bas} (h : EnvB w B) (hb : Below w.heap.size w w') : EnvB w' B := ⟨h.1, h.2.1.trans (hb.mono h.2.1.size), h.2.2.1.trans (grownS_of_below hb), h.2.2.2⟩
theorem EnvB.grownS {w w' : World} {B : Bas} {S : Nat → Prop} (h : EnvB w B) (hg : GrownS w w' S) (hs : ∀ k, S k → B.tn k) : EnvB w' B := ⟨h.1, h.2.1.trans (hg.below h.2.1.size (fun k hk => (hs k hk).1)), h.2.2.1.trans (hg.mono (fun k _ hk => (hs k hk).2)), h.2.2.2⟩
theorem EnvB.le {w : World} {B : Bas} (h : EnvB w B) : ∀ k, w.heap.size ≤ k → B.tn k := fun k hk => ⟨Nat.le_trans h.2.1.size hk, h.2.2.2 k (Nat.le_trans h.2.2.1.size hk)⟩
theorem EnvB.maxLen {w : World} {B : Bas} (h : EnvB w B) : ∃ m : Int, w.cell? ⟨0, 0, none⟩ = some (.int .i64 m) := by
  obtain ⟨⟨m, h2⟩, h4, _⟩ := h
  refine ⟨m, (h4.cell (p := ⟨0, 0, none⟩) ?_).trans h2⟩
  have : B.w.heap[(0 : Nat)]? ≠ none := fun e => by simp [World.cell?, e] at h2
  rcases Nat.lt_or_ge 0 B.w.heap.size with h5 | h5
  · exact h5
  · exact absurd (Array.getElem?_eq_none h5) this
theorem EnvB.pow {w : World} {B : Bas} (h : EnvB w B) (hp : PowB B) : Lib.TabIs Tryz.prog w "internal/strconv.uint64pow10" .u64 Lib.pow10Tab :=
  Joins.tab_stays (by kernel_rfl : Tryz.prog.globalNamed "internal/strconv.uint64pow10" = some 1) hp h.2.1 (Nat.le_refl _)
theorem EnvB.self {w : World} {B : Bas} (h : EnvB w B) : EnvB w (Bas.of w) := ⟨h.maxLen, Below.refl _ _, grownS_of_below (Below.refl _ _), fun _ h => h⟩
/-- A later world beside: of it all blocks but S stay. -/
theorem EnvB.rebase {w : World} {B : Bas} (h : EnvB w B) {S : Nat → Prop} (hs : ∀ k, w.heap.size ≤ k → S k) : EnvB w ⟨B.w, w, S⟩ := ⟨h.1, h.2.1, grownS_of_below (Below.refl _ _), hs⟩
/-- Nodes, names and parents at q: the table at t (its blocks are of T), the directories' map at dm, the names' maps at M. -/
structure NdL (w : World) (q t dm : Nat) (M : Int → Nat) (X : Nat → Prop) (s : NS) (nb : Nat) : Prop where
  nds : Blk w q 97 #[.pointer (some ⟨t, 0, none⟩), .map (some dm)]
  tab : TAt w t X s.T nb
  lt : ∀ k, X k → k < w.heap.size
  noq : ¬ X q
  nod : ¬ X dm
  dirs : ∃ D, MapV w 3 dm D ∧ DReads D (kdI s.T) s.par M
  each : ∀ d, kdI s.T d = 2 → MapV w 9 (M d) (datN s.L d) ∧ ¬ X (M d) ∧ M d ≠ dm
  inj : ∀ d e, kdI s.T d = 2 → kdI s.T e = 2 → d ≠ e → M d ≠ M e
/-- Its blocks are Y's. -/
structure NdIn (q dm : Nat) (M : Int → Nat) (X : Nat → Prop) (s : NS) (Y : Nat → Prop) : Prop where
  q : Y q
  dm : Y dm
  m : ∀ d, kdI s.T d = 2 → Y (M d)
  x : ∀ k, X k → Y k
def NdAt (w : World) (q : Nat) (Y : Nat → Prop) (s : NS) (nb : Nat) : Prop := ∃ t dm M X, NdL w q t dm M X s nb ∧ NdIn q dm M X s Y
theorem NdL.lts {w : World} {q t dm : Nat} {M : Int → Nat} {X : Nat → Prop} {s : NS} {nb : Nat} (H : NdL w q t dm M X s nb) : NdIn q dm M X s (fun k => k < w.heap.size) := by
  obtain ⟨D, h, _⟩ := H.dirs
  exact ⟨H.nds.lt, h.lt, fun d hd => (H.each d hd).1.lt, H.lt⟩
theorem NdIn.mono {q dm : Nat} {M : Int → Nat} {X Y Z : Nat → Prop} {s : NS} (h : NdIn q dm M X s Y) (hyz : ∀ k, Y k → Z k) : NdIn q dm M X s Z := ⟨hyz _ h.q, hyz _ h.dm, fun d hd => hyz _ (h.m d hd), fun k hk => hyz _ (h.x k hk)⟩
theorem NdIn.and {q dm : Nat} {M : Int → Nat} {X Y Z : Nat → Prop} {s : NS} (h : NdIn q dm M X s Y) (h2 : NdIn q dm M X s Z) : NdIn q dm M X s (fun k => Y k ∧ Z k) := ⟨⟨h.q, h2.q⟩, ⟨h.dm, h2.dm⟩, fun d hd => ⟨h.m d hd, h2.m d hd⟩, fun k hk => ⟨h.x k hk, h2.x k hk⟩⟩
theorem NdL.grownS {w w' : World} {q t dm : Nat} {M : Int → Nat} {X S : Nat → Prop} {s : NS} {nb : Nat} (H : NdL w q t dm M X s nb) (hg : GrownS w w' S) (hn : NdIn q dm M X s (fun k => ¬ S k)) : NdL w' q t dm M X s nb := by
  obtain ⟨D, h1, h2⟩ := H.dirs
  exact ⟨H.nds.grownS hg hn.q, H.tab.grownS hg (fun k _ hk => hn.x k hk), fun k hk => Nat.lt_of_lt_of_le (H.lt k hk) hg.size, H.noq, H.nod, ⟨D, mapV_grownS h1 hg hn.dm, h2⟩, fun d hd => ⟨mapV_grownS (H.each d hd).1 hg (hn.m d hd), (H.each d hd).2⟩, H.inj⟩
theorem NdAt.grownS {w w' : World} {q nb : Nat} {Y S : Nat → Prop} {s : NS} (H : NdAt w q Y s nb) (hg : GrownS w w' S) (hd : ∀ k, k < w.heap.size → Y k → ¬ S k) : NdAt w' q Y s nb := by
  obtain ⟨t, dm, M, X, h1, h2⟩ := H
  exact ⟨t, dm, M, X, h1.grownS hg ((h1.lts.and h2).mono (fun k hk => hd k hk.1 hk.2)), h2⟩
theorem NdAt.below {w w' : World} {q nb : Nat} {Y : Nat → Prop} {s : NS} (H : NdAt w q Y s nb) (hb : Below w.heap.size w w') : NdAt w' q Y s nb := H.grownS (S := fun _ => False) (grownS_of_below hb) (fun _ _ _ e => e)
theorem NdAt.mono {w : World} {q nb : Nat} {Y Z : Nat → Prop} {s : NS} (H : NdAt w q Y s nb) (hyz : ∀ k, k < w.heap.size → Y k → Z k) : NdAt w q Z s nb := by
  obtain ⟨t, dm, M, X, h1, h2⟩ := H
  exact ⟨t, dm, M, X, h1, (h1.lts.and h2).mono (fun k hk => hyz k hk.1 hk.2)⟩
theorem NdAt.lt {w : World} {q nb : Nat} {Y : Nat → Prop} {s : NS} (H : NdAt w q Y s nb) : q < w.heap.size := by
  obtain ⟨t, dm, M, X, h1, h2⟩ := H
  exact h1.nds.lt
/-- The table's turn: it may use its own blocks and new ones. -/
def Fresh (w : World) (X : Nat → Prop) : Nat → Prop := fun k => X k ∨ w.heap.size ≤ k
def Upto (w : World) (X : Nat → Prop) : Nat → Prop := fun k => X k ∧ k < w.heap.size
/-- The table turned; kinds of directories and all else stayed. -/
theorem NdL.table {w w' : World} {q t dm : Nat} {M : Int → Nat} {X : Nat → Prop} {s : NS} {nb : Nat} {T' : TB} (H : NdL w q t dm M X s nb) (h1 : TAt w' t (Fresh w X) T' nb) (h2 : GrownS w w' (Fresh w X)) (hk : ∀ d, kdI T' d = 2 ↔ kdI s.T d = 2) : NdL w' q t dm M (Upto w' (Fresh w X)) { s with T := T' } nb := by
  have lt := H.lts
  have nf : ∀ k, k < w.heap.size → ¬ X k → ¬ Fresh w X k := fun k hk hx h => h.elim hx (fun h => by omega)
  have nu : ∀ k, k < w.heap.size → ¬ X k → ¬ Upto w' (Fresh w X) k := fun k hk hx h => nf k hk hx h.1
  obtain ⟨D, d1, d2⟩ := H.dirs
  exact ⟨H.nds.grownS h2 (nf q lt.q H.noq), h1.mono (fun k hk hx => ⟨hx, hk⟩), fun k hk => hk.2, nu q lt.q H.noq, nu dm lt.dm H.nod, ⟨D, mapV_grownS d1 h2 (nf dm lt.dm H.nod), fun d hd => d2.at' d ((hk d).1 hd), fun d hd => d2.no d (fun e => hd ((hk d).2 e))⟩, fun d hd => by
    have hd1 := (hk d).1 hd
    have e := H.each d hd1
    exact ⟨mapV_grownS e.1 h2 (nf _ e.1.lt e.2.1), nu _ e.1.lt e.2.1, e.2.2⟩, fun d e hd he => H.inj d e ((hk d).1 hd) ((hk e).1 he)⟩
theorem NdIn.table {w w' : World} {q dm : Nat} {M : Int → Nat} {X Y : Nat → Prop} {s : NS} {T' : TB} (h : NdIn q dm M X s Y) (hY : ∀ k, w.heap.size ≤ k → Y k) (hk : ∀ d, kdI T' d = 2 ↔ kdI s.T d = 2) : NdIn q dm M (Upto w' (Fresh w X)) { s with T := T' } Y :=
  ⟨h.q, h.dm, fun d hd => h.m d ((hk d).1 hd), fun k hk => hk.1.elim (h.x k) (hY k)⟩

/-- What the calls keep to. -/
structure NmOk (n : List UInt8) : Prop where
  ne : n ≠ []
  dot : n ≠ [46]
  dots : n ≠ [46, 46]
  len : n.length ≤ 32
  no : ∀ c ∈ n, c ≠ 47
structure NOk (s : NS) (n : Nat) : Prop where
  inv : NInv s
  gd : TGood s.T n
  max : s.T.length ≤ 1024
  nm : ∀ x ∈ s.L, NmOk x.name
  len : s.L.length ≤ n
  par : ∀ k, 0 ≤ s.par k ∧ s.par k ≤ 1024
  up : UpOk s
theorem NOk.node {s : NS} {n : Nat} (H : NOk s n) {x : Nm} (hx : x ∈ s.L) : 1 ≤ x.node ∧ x.node ≤ 1024 := by
  refine ⟨H.inv.there hx, ?_⟩
  have h1 := NV.node1 H.inv.names hx
  unfold nmI at h1
  cases h : ndAt s.T x.node with
  | none => rw [h] at h1; exact absurd h1 (by simp [namesOf])
  | some y =>
    obtain ⟨k, e, _, hl⟩ := ndAt_some h
    have := H.max
    omega
theorem NOk.find {s : NS} {n : Nat} (H : NOk s n) (d : Int) (m : List UInt8) : 0 ≤ findN s d m ∧ findN s d m ≤ 1024 := by
  by_cases h : findN s d m = 0
  · omega
  · obtain ⟨x, hx, _, _, e⟩ := find_some h
    have := H.node hx
    omega
theorem und_dirs : Tryz.prog.underlying 95 = some (.map 3 149) := by kernel_rfl
theorem und_names : Tryz.prog.underlying 147 = some (.map 9 3) := by kernel_rfl
def zeroDir : Value := .agg #[.int .i64 0, .map none]
theorem zero_dir (w : World) : (zeroValue 149).run Tryz.prog w = .ok zeroDir w := by
  have := Tryz.zeroValue149
  exact this w
theorem zero_int (w : World) : (zeroValue 3).run Tryz.prog w = .ok (.int .i64 0) w := by
  have := Tryz.zeroValue3
  exact this w
def mapOf (s : NS) (M : Int → Nat) (d : Int) : Option Nat := if kdI s.T d = 2 then some (M d) else none
def parOf (s : NS) (d : Int) : Int := if kdI s.T d = 2 then s.par d else 0
/-- n.dirs[d]. -/
theorem NdL.look {w : World} {q t dm : Nat} {M : Int → Nat} {X : Nat → Prop} {s : NS} {nb : Nat} (H : NdL w q t dm M X s nb) {d : Int} (hb : -9223372036854775808 ≤ d ∧ d ≤ 9223372036854775807) : (Instr.lookup 95 (.map (some dm)) (.int .i64 d) false).run Tryz.prog w = .ok (.agg #[.int .i64 (parOf s d), .map (mapOf s M d)]) w := by
  obtain ⟨D, h1, h2⟩ := H.dirs
  obtain ⟨v, ps, h3, h4⟩ := h1.lookup lawI und_dirs (zero_dir w) (zd := .held zeroDir) (zp := []) rfl (keyI (wf64 hb))
  have hv : D.atKey (.int .i64 d) (.held zeroDir) = .held v := (Prod.mk.inj (Option.some.inj h4)).1.symm
  rw [h3]
  unfold parOf mapOf
  by_cases hd : kdI s.T d = 2
  · rw [h2.at' d hd] at hv
    rw [if_pos hd, if_pos hd, ← DataW.held.inj hv]
    rfl
  · rw [atKey_of_not_has (h2.no d hd)] at hv
    rw [if_neg hd, if_neg hd, ← DataW.held.inj hv]
    rfl
theorem NInv.out {s : NS} (H : NInv s) {d : Int} (hd : kdI s.T d ≠ 2) (n : List UInt8) : findN s d n = 0 := find_no (fun y hy e => hd (by rw [← e.1]; exact (H.dirs y hy).1))
/-- names[n]. -/
theorem NdL.lookN {w : World} {q t dm : Nat} {M : Int → Nat} {X : Nat → Prop} {s : NS} {nb n : Nat} (H : NdL w q t dm M X s nb) (K : NOk s n) (d : Int) {m : List UInt8} (hm : m.length ≤ maxLen) : (Instr.lookup 147 (.map (mapOf s M d)) (.string (BA m)) true).run Tryz.prog w = .ok (.tuple #[.int .i64 (findN s d m), .bool (decide (findN s d m ≠ 0))]) w := by
  unfold mapOf
  by_cases hd : kdI s.T d = 2
  · rw [if_pos hd]
    obtain ⟨v, ps, h3, h4⟩ := (H.each d hd).1.look_ok strKeyed und_names (zero_int w) (zd := .held (.int .i64 0)) (zp := []) rfl (hk_str m hm)
    have hv : (datN s.L d).atKey (.string m) (.held (.int .i64 0)) = .held v := (Prod.mk.inj (Option.some.inj h4)).1.symm
    rw [h3]
    by_cases h0 : findN s d m = 0
    · have hno : has (datN s.L d) (.string m) = false := dat_has_no (fun y hy e1 e2 => by
        injection e2 with e2
        exact K.inv.find0 h0 y hy ⟨e1, e2.symm⟩)
      rw [atKey_of_not_has hno] at hv
      rw [hno, h0, ← DataW.held.inj hv]
      rfl
    · obtain ⟨x, hx, e1, e2, e3⟩ := find_some h0
      subst e2
      rw [dat_at K.inv.srt hx e1] at hv
      rw [dat_has_mem hx e1, ← DataW.held.inj hv, e3]
      simp [h0]
  · rw [if_neg hd, Maps.look_nil true strKeyed und_names (zero_int w) (hk_str m hm), K.inv.out hd]
    rfl
theorem NdL.kind {w : World} {q t dm : Nat} {M : Int → Nat} {X : Nat → Prop} {s : NS} {nb : Nat} (H : NdL w q t dm M X s nb) (i : Int) (hb : -9223372036854775808 ≤ i ∧ i ≤ 9223372036854775807) : Calls Tryz.prog 109 #[.pointer (some ⟨t, 0, none⟩), .int .i64 i] w fun e w' => e = .returned (.int .i64 (kdI s.T i : Int)) ∧ w' = w := by
  obtain ⟨L, HL, _⟩ := H.tab
  exact tkind_any HL i hb

/-- Nodes with all that a call of theirs asks for. -/
structure NdX (w : World) (q : Nat) (Y : Nat → Prop) (s : NS) (nb n : Nat) (B : Bas) : Prop where
  at' : NdAt w q Y s nb
  ok : NOk s n
  env : EnvB w B
  yb : ∀ k, Y k → B.tn k
theorem NdX.below {w w' : World} {q nb n : Nat} {B : Bas} {Y : Nat → Prop} {s : NS} (H : NdX w q Y s nb n B) (hb : Below w.heap.size w w') : NdX w' q Y s nb n B := ⟨H.at'.below hb, H.ok, H.env.below hb, H.yb⟩
theorem NdX.grownS {w w' : World} {q nb n : Nat} {B : Bas} {Y S : Nat → Prop} {s : NS} (H : NdX w q Y s nb n B) (hg : GrownS w w' S) (hd : ∀ k, k < w.heap.size → Y k → ¬ S k) (hs : ∀ k, S k → B.tn k) : NdX w' q Y s nb n B := ⟨H.at'.grownS hg hd, H.ok, H.env.grownS hg hs, H.yb⟩
theorem NdX.turn {w w' : World} {q nb n n' : Nat} {B : Bas} {Y : Nat → Prop} {s s' : NS} (H : NdX w q Y s nb n B) (h1 : NdAt w' q Y s' nb) (h2 : GrownS w w' Y) (h3 : NOk s' n') : NdX w' q Y s' nb n' B := ⟨h1, h3, H.env.grownS h2 H.yb, H.yb⟩

end Go.Proofs.YtnpeiibecihleaaGreatDoor

/-
  Directories (stage 13): paths without strokes; what is found behind put and drop.
  Directories (stage 13): a name that is put or dropped changes no other one.
-/
import Derived.Test.YtemologkibcdoaaGreatDoorM13

/- Directories (stage 13): paths without strokes; what is found behind put and drop. -/
namespace Go.Proofs.YtemologkibcdoaaGreatDoor
open Go.RowKit Go.Maps

theorem parts_plain : ∀ {p : List UInt8}, (∀ c ∈ p, c ≠ 47) → partsOf p = [p]
  | [], _ => rfl
  | c :: p, h => by
    have h1 := parts_plain (p := p) (fun x hx => h x (List.mem_cons_of_mem _ hx))
    show (if c = 47 then [] :: partsOf p else match partsOf p with | [] => [[c]] | q :: ps => (c :: q) :: ps) = _
    rw [if_neg (h c List.mem_cons_self), h1]
theorem goes_plain {s : NS} {p : List UInt8} (hp : ∀ c ∈ p, c ≠ 47) (at' : Int) (r : Nat) (n : Nat) : goesN s n at' p false r = if p = [] then (0, 23, r) else if 256 < p.length then (0, 3, r) else if isD s at' = false then (0, 25, r) else if p = [46] then (at', 0, r) else if p = [46, 46] then (if s.par at' = 0 then (0, 25, r) else (s.par at', 0, r)) else if 32 < p.length then (0, 3, r) else if findN s at' p = 0 then (0, 23, r) else (findN s at' p, 0, r) := by
  by_cases h0 : p = []
  · subst h0
    cases n <;> rfl
  · have hh : p.head? ≠ some 47 := by
      cases p with
      | nil => exact absurd rfl h0
      | cons c p =>
        intro e
        have : c = 47 := by simpa using e
        exact hp c List.mem_cons_self this
    have hstep : ∀ go, stepN go s at' p false r = if isD s at' = false then (0, 25, r) else if p = [46] then (at', 0, r) else if p = [46, 46] then (if s.par at' = 0 then (0, 25, r) else (s.par at', 0, r)) else if 32 < p.length then (0, 3, r) else if findN s at' p = 0 then (0, 23, r) else (findN s at' p, 0, r) := fun go => by
      unfold stepN
      split
      · rfl
      · by_cases h1 : p = [46]
        · rw [if_pos (.inr h1), if_pos h1]
        · rw [if_neg (fun e => e.elim h0 h1), if_neg h1]
          split
          · rfl
          · split
            · rfl
            · split
              · rfl
              · rw [if_pos (.inr rfl)]
    cases n with
    | zero =>
      unfold goesN
      rw [if_neg h0, if_neg h0, if_neg hh, parts_plain hp]
      split
      · rfl
      · exact hstep _
    | succ n =>
      unfold goesN
      rw [if_neg h0, if_neg h0, if_neg hh, parts_plain hp]
      split
      · rfl
      · exact hstep _
theorem drop_plain {p : List UInt8} (h : ∀ c ∈ p, c ≠ 47) : p.dropWhile (fun c => decide (c = 47)) = p := by
  cases p with
  | nil => rfl
  | cons c p => rw [List.dropWhile_cons, if_neg (by have := h c List.mem_cons_self; simpa using this)]
theorem takeW_all {p : List UInt8} : (∀ c ∈ p, c ≠ 47) → p.takeWhile (fun c => decide (c ≠ 47)) = p ∧ p.dropWhile (fun c => decide (c ≠ 47)) = [] := by
  induction p with
  | nil => exact fun _ => ⟨rfl, rfl⟩
  | cons c p ih =>
    intro h
    have h1 : decide (c ≠ 47) = true := by simpa using h c List.mem_cons_self
    obtain ⟨h2, h3⟩ := ih (fun x hx => h x (List.mem_cons_of_mem _ hx))
    rw [List.takeWhile_cons, List.dropWhile_cons, if_pos h1, if_pos h1, h2, h3]
    exact ⟨rfl, rfl⟩
theorem strip_plain {p : List UInt8} (h : ∀ c ∈ p, c ≠ 47) : stripN p = p := by
  unfold stripN
  rw [drop_plain (fun c hc => h c (List.mem_reverse.1 hc)), List.reverse_reverse]
theorem last_plain {p : List UInt8} (h : ∀ c ∈ p, c ≠ 47) : lastN p = p := by
  unfold lastN
  rw [(takeW_all (fun c hc => h c (List.mem_reverse.1 hc))).1, List.reverse_reverse]
theorem ahead_plain {p : List UInt8} (h : ∀ c ∈ p, c ≠ 47) : aheadN p = [] := by
  unfold aheadN
  rw [(takeW_all (fun c hc => h c (List.mem_reverse.1 hc))).2]
  rfl
theorem place_plain {s : NS} {dir : Int} {p : List UInt8} (h : ∀ c ∈ p, c ≠ 47) : placeN s dir p = if isD s dir = false then (0, [], 25) else if p = [] then (0, [], 23) else if p = [46] ∨ p = [46, 46] then (0, [], 1) else if 32 < p.length then (0, [], 3) else (dir, p, 0) := by
  unfold placeN
  rw [strip_plain h, last_plain h, ahead_plain h]
  split
  · rfl
  · split
    · rfl
    · rename_i h0
      by_cases h1 : p = [46] ∨ p = [46, 46]
      · rw [if_pos (.inr h1), if_pos h1]
      · rw [if_neg (fun e => e.elim h0 h1), if_neg h1]
        by_cases h2 : 32 < p.length
        · rw [if_pos (.inr h2), if_pos h2]
        · rw [if_neg (fun e => e.elim (fun e => by omega) h2), if_neg h2, if_pos rfl]
theorem find_of {s : NS} (h : Srt s.L) {d : Int} {n : List UInt8} {x : Nm} (hx : x ∈ s.L) (h1 : x.dir = d) (h2 : x.name = n) : findN s d n = x.node := by
  subst h1
  subst h2
  exact find_mem h hx
theorem find_no {s : NS} {d : Int} {n : List UInt8} (h : ∀ y ∈ s.L, ¬ (y.dir = d ∧ y.name = n)) : findN s d n = 0 := by
  by_cases e : findN s d n = 0
  · exact e
  · obtain ⟨x, hx, h1, h2, _⟩ := find_some e
    exact absurd ⟨h1, h2⟩ (h x hx)
/-- What was renamed is found by its new name, and not by its old one. -/
theorem ren_find {s : NS} (H : NInv s) {dir : Int} {p q : List UInt8} (h : renE s (placeN s dir p) (placeN s dir q) (findN s (placeN s dir p).1 (placeN s dir p).2.1) (findN s (placeN s dir q).1 (placeN s dir q).2.1) = 0) (hik : findN s (placeN s dir p).1 (placeN s dir p).2.1 ≠ findN s (placeN s dir q).1 (placeN s dir q).2.1) :
    findN (renS s (placeN s dir p) (placeN s dir q) (findN s (placeN s dir p).1 (placeN s dir p).2.1) (findN s (placeN s dir q).1 (placeN s dir q).2.1)) (placeN s dir q).1 (placeN s dir q).2.1 = findN s (placeN s dir p).1 (placeN s dir p).2.1 ∧ findN (renS s (placeN s dir p) (placeN s dir q) (findN s (placeN s dir p).1 (placeN s dir p).2.1) (findN s (placeN s dir q).1 (placeN s dir q).2.1)) (placeN s dir p).1 (placeN s dir p).2.1 = 0 := by
  have K := keep_ren H (dir := dir) (p := p) (q := q)
  have hne : ¬ ((placeN s dir p).1 = (placeN s dir q).1 ∧ (placeN s dir p).2.1 = (placeN s dir q).2.1) := fun e => hik (by rw [e.1, e.2])
  have hL : ∃ L', (renS s (placeN s dir p) (placeN s dir q) (findN s (placeN s dir p).1 (placeN s dir p).2.1) (findN s (placeN s dir q).1 (placeN s dir q).2.1)).L = putL (dropL L' (placeN s dir p).1 (placeN s dir p).2.1) ⟨(placeN s dir q).1, (placeN s dir q).2.1, findN s (placeN s dir p).1 (placeN s dir p).2.1⟩ := by
    unfold renS
    rw [if_pos ⟨h, hik⟩]
    split
    · exact ⟨_, rfl⟩
    · exact ⟨_, rfl⟩
  obtain ⟨L', hL⟩ := hL
  refine ⟨find_of K.srt (x := ⟨(placeN s dir q).1, (placeN s dir q).2.1, findN s (placeN s dir p).1 (placeN s dir p).2.1⟩) (by rw [hL]; exact mem_put.2 (.inl rfl)) rfl rfl, find_no (fun y hy e => ?_)⟩
  rw [hL] at hy
  rcases mem_put.1 hy with rfl | hy
  · exact hne ⟨e.1.symm, e.2.symm⟩
  · exact (mem_drop.1 hy).2 e

end Go.Proofs.YtemologkibcdoaaGreatDoor

/- Directories (stage 13): a name that is put or dropped changes no other one. -/
namespace Go.Proofs.YtemologkibcdoaaGreatDoor
open Go.RowKit Go.Maps

theorem drop_put {L : List Nm} {x : Nm} (h : ∀ y ∈ L, ¬ (y.dir = x.dir ∧ y.name = x.name)) : dropL (putL L x) x.dir x.name = L := by
  unfold putL dropL
  rw [List.filter_append, List.filter_cons_of_neg (by simp [Nm.at])]
  have h1 := drop_none (L := L.takeWhile (fun y => !ltM x y)) (fun y hy => h y ((List.takeWhile_sublist _).subset hy))
  have h2 := drop_none (L := L.dropWhile (fun y => !ltM x y)) (fun y hy => h y ((List.dropWhile_sublist _).subset hy))
  unfold dropL at h1 h2
  rw [h1, h2]
  exact List.takeWhile_append_dropWhile
def inL (L : List Nm) (d : Int) : List (List UInt8) := (L.filter (fun x => decide (x.dir = d))).map (·.name)
theorem inL_drop (d : Int) (n : List UInt8) : ∀ L : List Nm, inL (dropL L d n) d = (inL L d).filter (fun t => decide (t ≠ n))
  | [] => rfl
  | x :: L => by
    have ih := inL_drop d n L
    unfold inL dropL at ih ⊢
    by_cases h1 : x.dir = d
    · by_cases h2 : x.name = n
      · rw [List.filter_cons_of_neg (by simp [Nm.at, h1, h2]), ih, List.filter_cons_of_pos (by simpa using h1), List.map_cons, List.filter_cons_of_neg (by simpa using h2)]
      · rw [List.filter_cons_of_pos (by simp [Nm.at, h2]), List.filter_cons_of_pos (by simpa using h1), List.filter_cons_of_pos (by simpa using h1), List.map_cons, List.map_cons, List.filter_cons_of_pos (by simpa using h2), ih]
    · rw [List.filter_cons_of_pos (by simp [Nm.at, h1]), List.filter_cons_of_neg (by simpa using h1), List.filter_cons_of_neg (by simpa using h1), ih]
theorem inL_other {d e : Int} (n : List UInt8) (h : d ≠ e) : ∀ L : List Nm, inL (dropL L d n) e = inL L e
  | [] => rfl
  | x :: L => by
    have ih := inL_other n h L
    unfold inL dropL at ih ⊢
    by_cases h1 : x.dir = d
    · have h2 : ¬ x.dir = e := fun e2 => h (h1.symm.trans e2)
      by_cases h3 : x.name = n
      · rw [List.filter_cons_of_neg (by simp [Nm.at, h1, h3]), ih, List.filter_cons_of_neg (by simpa using h2)]
      · rw [List.filter_cons_of_pos (by simp [Nm.at, h3]), List.filter_cons_of_neg (by simpa using h2), List.filter_cons_of_neg (by simpa using h2), ih]
    · rw [List.filter_cons_of_pos (by simp [Nm.at, h1])]
      by_cases h2 : x.dir = e
      · rw [List.filter_cons_of_pos (by simpa using h2), List.filter_cons_of_pos (by simpa using h2), List.map_cons, List.map_cons, ih]
      · rw [List.filter_cons_of_neg (by simpa using h2), List.filter_cons_of_neg (by simpa using h2), ih]
/-- The names of a directory behind put: what was there is what is there but for the new one. -/
theorem inL_put {L : List Nm} {x : Nm} (h : ∀ y ∈ L, ¬ (y.dir = x.dir ∧ y.name = x.name)) : (inL (putL L x) x.dir).filter (fun t => decide (t ≠ x.name)) = inL L x.dir := by
  rw [← inL_drop, drop_put h]
theorem inL_len (L : List Nm) (d : Int) : (inL L d).length = L.countP (fun x => decide (x.dir = d)) := by
  unfold inL
  rw [List.length_map, List.countP_eq_length_filter]
theorem inL_put_len {L : List Nm} (x : Nm) : (inL (putL L x) x.dir).length = (inL L x.dir).length + 1 := by
  rw [inL_len, inL_len, count_put, if_pos (by simp)]
theorem inL_drop_len {L : List Nm} {x : Nm} (h : Srt L) (hx : x ∈ L) : (inL L x.dir).length = (inL (dropL L x.dir x.name) x.dir).length + 1 := by
  rw [inL_len, inL_len, count_drop h hx, if_pos (by simp)]
theorem inN_is (s : NS) (d : Int) : inN s d = inL s.L d := rfl

end Go.Proofs.YtemologkibcdoaaGreatDoor

/-
  Directories (stage 13): what they have, and what each call of the document makes of them.
  Directories (stage 13): what names keep to: each node's names are as many as lead to it, directories are a tree.
-/
import Derived.Test.YtemologkibcdoaaGreatDoorM11

/- Directories (stage 13): what they have, and what each call of the document makes of them. -/
namespace Go.Proofs.YtemologkibcdoaaGreatDoor
open Go.RowKit Go.Maps

/-- A name in a directory. -/
structure Nm where
  dir : Int
  name : List UInt8
  node : Int
/-- Nodes, names (by directories, and in order), parents. -/
structure NS where
  T : TB
  L : List Nm
  par : Int → Int
def kd (s : NS) (i : Int) : Nat := kindOf (ndAt s.T i)
def isD (s : NS) (i : Int) : Bool := decide (kd s i = 2)
def Nm.at (x : Nm) (d : Int) (n : List UInt8) : Bool := decide (x.dir = d) && decide (x.name = n)
/-- The node of a name; 0: there is none. -/
def findN (s : NS) (d : Int) (n : List UInt8) : Int := match s.L.find? (fun x => x.at d n) with | none => 0 | some x => x.node
/-- The names in a directory. -/
def inN (s : NS) (d : Int) : List (List UInt8) := (s.L.filter (fun x => decide (x.dir = d))).map (·.name)
/-- Bytes in order. -/
def ltT : List UInt8 → List UInt8 → Bool
  | _, [] => false
  | [], _ :: _ => true
  | a :: s, b :: t => decide (a < b) || (decide (a = b) && ltT s t)
def ltM (x y : Nm) : Bool := decide (x.dir < y.dir) || (decide (x.dir = y.dir) && ltT x.name y.name)
def putL (L : List Nm) (x : Nm) : List Nm := L.takeWhile (fun y => !ltM x y) ++ x :: L.dropWhile (fun y => !ltM x y)
def dropL (L : List Nm) (d : Int) (n : List UInt8) : List Nm := L.filter (fun y => !y.at d n)
/-- A path's parts. -/
def partsOf : List UInt8 → List (List UInt8)
  | [] => [[]]
  | c :: s => if c = 47 then [] :: partsOf s else match partsOf s with | [] => [[c]] | p :: ps => (c :: p) :: ps
/-- A part is gone: the node, the error, how many links may yet be followed. -/
def stepN (go : Int → List UInt8 → Nat → Int × Int × Nat) (s : NS) (at' : Int) (part : List UInt8) (follow : Bool) (r : Nat) : Int × Int × Nat :=
  if isD s at' = false then (0, 25, r)
  else if part = [] ∨ part = [46] then (at', 0, r)
  else if part = [46, 46] then (if s.par at' = 0 then (0, 25, r) else (s.par at', 0, r))
  else if 32 < part.length then (0, 3, r)
  else if findN s at' part = 0 then (0, 23, r)
  else if kd s (findN s at' part) ≠ 3 ∨ follow = false then (findN s at' part, 0, r)
  else if r = 0 then (0, 27, r)
  else go at' (datO (ndAt s.T (findN s at' part))) (r - 1)
def loopN (go : Int → List UInt8 → Nat → Int × Int × Nat) (s : NS) (follow : Bool) : List (List UInt8) → Int → Nat → Int × Int × Nat
  | [], at', r => (at', 0, r)
  | [p], at', r => stepN go s at' p follow r
  | p :: q :: ps, at', r => if (stepN go s at' p true r).2.1 ≠ 0 then stepN go s at' p true r else loopN go s follow (q :: ps) (stepN go s at' p true r).1 (stepN go s at' p true r).2.2
/-- A path is gone from a directory (n: how deep links may yet stand in links). -/
def goesN (s : NS) : Nat → Int → List UInt8 → Bool → Nat → Int × Int × Nat
  | 0, at', path, follow, r =>
    if path = [] then (0, 23, r) else if 256 < path.length then (0, 3, r)
    else if path.head? = some 47 then loopN (fun _ _ r => (0, 27, r)) s follow (partsOf path.tail) 1 r
    else loopN (fun _ _ r => (0, 27, r)) s follow (partsOf path) at' r
  | n + 1, at', path, follow, r =>
    if path = [] then (0, 23, r) else if 256 < path.length then (0, 3, r)
    else if path.head? = some 47 then loopN (fun a t r => goesN s n a t true r) s follow (partsOf path.tail) 1 r
    else loopN (fun a t r => goesN s n a t true r) s follow (partsOf path) at' r
/-- Walk. -/
def walkN (s : NS) (dir : Int) (path : List UInt8) (follow : Bool) : Int × Int := if isD s dir then ((goesN s 8 dir path follow 8).1, (goesN s 8 dir path follow 8).2.1) else (0, 25)
def stripN (p : List UInt8) : List UInt8 := (p.reverse.dropWhile (fun c => decide (c = 47))).reverse
def lastN (p : List UInt8) : List UInt8 := (p.reverse.takeWhile (fun c => decide (c ≠ 47))).reverse
def aheadN (p : List UInt8) : List UInt8 := (p.reverse.dropWhile (fun c => decide (c ≠ 47))).reverse
/-- The directory and the last part of a path. -/
def placeN (s : NS) (dir : Int) (path : List UInt8) : Int × List UInt8 × Int :=
  if isD s dir = false then (0, [], 25)
  else if path = [] then (0, [], 23)
  else if lastN (stripN path) = [] ∨ lastN (stripN path) = [46] ∨ lastN (stripN path) = [46, 46] then (0, [], 1)
  else if 256 < path.length ∨ 32 < (lastN (stripN path)).length then (0, [], 3)
  else if aheadN (stripN path) = [] then (dir, lastN (stripN path), 0)
  else ((walkN s dir (aheadN (stripN path)) true).1, lastN (stripN path), if (walkN s dir (aheadN (stripN path)) true).2 = 0 ∧ isD s (walkN s dir (aheadN (stripN path)) true).1 = false then 25 else (walkN s dir (aheadN (stripN path)) true).2)
/-- A place at which something may be made. -/
def roomN (s : NS) (dir : Int) (path : List UInt8) : Int × List UInt8 × Int :=
  if (placeN s dir path).2.2 ≠ 0 then (0, [], (placeN s dir path).2.2)
  else if 0 < findN s (placeN s dir path).1 (placeN s dir path).2.1 then (0, [], 22)
  else if namesOf (ndAt s.T (placeN s dir path).1) = 0 then (0, [], 23)
  else placeN s dir path
def parU (par : Int → Int) (i d : Int) : Int → Int := fun k => if k = i then d else par k
/-- A node is made at a place: what is answered, and what is left. -/
inductive MadeSp (s : NS) (nb : Nat) (dir : Int) (path : List UInt8) (kind : Int) (text : List UInt8) : Int → Int → NS → Prop
  | bad : (roomN s dir path).2.2 ≠ 0 → MadeSp s nb dir path kind text 0 (roomN s dir path).2.2 s
  | nodes : (roomN s dir path).2.2 = 0 → makeE s.T kind ≠ 0 → MadeSp s nb dir path kind text 0 (makeE s.T kind) s
  | space (N E : Int) (T1 T2 : TB) : (roomN s dir path).2.2 = 0 → makeE s.T kind = 0 → T1 = tieT (makeT s.T kind) (makeN s.T kind) → WrSp T1 (nb - usedT T1) (makeN s.T kind) 0 text N E T2 → N < (text.length : Int) → MadeSp s nb dir path kind text 0 20 { s with T := untT T2 (makeN s.T kind) }
  | done (N E : Int) (T1 T2 : TB) : (roomN s dir path).2.2 = 0 → makeE s.T kind = 0 → T1 = tieT (makeT s.T kind) (makeN s.T kind) → WrSp T1 (nb - usedT T1) (makeN s.T kind) 0 text N E T2 → (text.length : Int) ≤ N → MadeSp s nb dir path kind text (makeN s.T kind) E ⟨T2, putL s.L ⟨(roomN s dir path).1, (roomN s dir path).2.1, makeN s.T kind⟩, parU s.par (makeN s.T kind) (roomN s dir path).1⟩
def linkE (s : NS) (dir : Int) (p q : List UInt8) : Int :=
  if (walkN s dir p false).2 ≠ 0 then (walkN s dir p false).2 else if isD s (walkN s dir p false).1 then 24 else (roomN s dir q).2.2
def linkS (s : NS) (dir : Int) (p q : List UInt8) : NS :=
  if linkE s dir p q = 0 then { s with T := tieT s.T (walkN s dir p false).1, L := putL s.L ⟨(roomN s dir q).1, (roomN s dir q).2.1, (walkN s dir p false).1⟩ } else s
/-- What stood in a directory that is no more stands nowhere. -/
def forgP (T : TB) (i : Int) (par : Int → Int) : Int → Int := fun k => if kindOf (ndAt T i) ≠ 2 ∧ par k = i then 0 else par k
/-- A name is gone. -/
def goneS (s : NS) (d : Int) (n : List UInt8) : NS := ⟨untT s.T (findN s d n), dropL s.L d n, forgP (untT s.T (findN s d n)) (findN s d n) s.par⟩
def unlinkE (s : NS) (dir : Int) (p : List UInt8) : Int :=
  if (placeN s dir p).2.2 ≠ 0 then (placeN s dir p).2.2 else if findN s (placeN s dir p).1 (placeN s dir p).2.1 = 0 then 23 else if isD s (findN s (placeN s dir p).1 (placeN s dir p).2.1) then 24 else 0
def unlinkS (s : NS) (dir : Int) (p : List UInt8) : NS := if unlinkE s dir p = 0 then goneS s (placeN s dir p).1 (placeN s dir p).2.1 else s
def rmdirE (s : NS) (dir : Int) (p : List UInt8) : Int :=
  if (placeN s dir p).2.2 ≠ 0 then (placeN s dir p).2.2 else if findN s (placeN s dir p).1 (placeN s dir p).2.1 = 0 then 23 else if isD s (findN s (placeN s dir p).1 (placeN s dir p).2.1) = false then 25 else if inN s (findN s (placeN s dir p).1 (placeN s dir p).2.1) ≠ [] then 26 else 0
def rmdirS (s : NS) (dir : Int) (p : List UInt8) : NS := if rmdirE s dir p = 0 then goneS s (placeN s dir p).1 (placeN s dir p).2.1 else s
/-- A directory is another one, or below it (n: how far up). -/
def belowN (s : NS) : Nat → Int → Int → Bool
  | 0, i, top => decide (i = top)
  | n + 1, i, top => decide (i = top) || (decide (i ≠ 1) && belowN s n (s.par i) top)

theorem find_some {s : NS} {d : Int} {n : List UInt8} (h : findN s d n ≠ 0) : ∃ x ∈ s.L, x.dir = d ∧ x.name = n ∧ x.node = findN s d n := by
  unfold findN at h ⊢
  cases hf : s.L.find? (fun x => x.at d n) with
  | none => rw [hf] at h; exact absurd rfl h
  | some x =>
    have h1 := List.find?_some hf
    simp only [Nm.at, Bool.and_eq_true, decide_eq_true_eq] at h1
    exact ⟨x, List.mem_of_find?_eq_some hf, h1.1, h1.2, rfl⟩
theorem mem_put {L : List Nm} {x y : Nm} : y ∈ putL L x ↔ y = x ∨ y ∈ L := by
  unfold putL
  rw [List.mem_append, List.mem_cons]
  constructor
  · rintro (h | h | h)
    · exact .inr ((List.takeWhile_sublist _).subset h)
    · exact .inl h
    · exact .inr ((List.dropWhile_sublist _).subset h)
  · rintro (h | h)
    · exact .inr (.inl h)
    · rw [← List.takeWhile_append_dropWhile (p := fun y => !ltM x y) (l := L), List.mem_append] at h
      rcases h with h | h
      · exact .inl h
      · exact .inr (.inr h)
theorem count_put {L : List Nm} {x : Nm} (p : Nm → Bool) : (putL L x).countP p = L.countP p + (if p x then 1 else 0) := by
  unfold putL
  rw [List.countP_append, List.countP_cons]
  have := List.countP_append (p := p) (l₁ := L.takeWhile (fun y => !ltM x y)) (l₂ := L.dropWhile (fun y => !ltM x y))
  rw [List.takeWhile_append_dropWhile] at this
  omega
theorem mem_drop {L : List Nm} {d : Int} {n : List UInt8} {y : Nm} : y ∈ dropL L d n ↔ y ∈ L ∧ ¬ (y.dir = d ∧ y.name = n) := by
  unfold dropL
  rw [List.mem_filter]
  constructor
  · rintro ⟨h1, h2⟩
    refine ⟨h1, fun ⟨e1, e2⟩ => ?_⟩
    simp [Nm.at, e1, e2] at h2
  · rintro ⟨h1, h2⟩
    refine ⟨h1, ?_⟩
    by_cases e1 : y.dir = d
    · by_cases e2 : y.name = n
      · exact absurd ⟨e1, e2⟩ h2
      · simp [Nm.at, e2]
    · simp [Nm.at, e1]
theorem ltT_irr : ∀ a : List UInt8, ltT a a = false
  | [] => rfl
  | a :: s => by simp [ltT, ltT_irr s]
theorem ltT_trans : ∀ {a b c : List UInt8}, ltT a b = true → ltT b c = true → ltT a c = true
  | _, _, [], _, h => by cases ‹List UInt8› <;> simp [ltT] at h
  | _, [], _ :: _, h, _ => by simp [ltT] at h
  | [], _ :: _, _ :: _, _, _ => rfl
  | a :: s, b :: t, c :: u, h1, h2 => by
    simp only [ltT, Bool.or_eq_true, Bool.and_eq_true, decide_eq_true_eq] at h1 h2 ⊢
    rcases h1 with h1 | ⟨rfl, h1⟩
    · rcases h2 with h2 | ⟨rfl, h2⟩
      · exact .inl (UInt8.lt_trans h1 h2)
      · exact .inl h1
    · rcases h2 with h2 | ⟨rfl, h2⟩
      · exact .inl h2
      · exact .inr ⟨rfl, ltT_trans h1 h2⟩
theorem ltT_tri : ∀ a b : List UInt8, a = b ∨ ltT a b = true ∨ ltT b a = true
  | [], [] => .inl rfl
  | [], _ :: _ => .inr (.inl rfl)
  | _ :: _, [] => .inr (.inr rfl)
  | a :: s, b :: t => by
    simp only [ltT, Bool.or_eq_true, Bool.and_eq_true, decide_eq_true_eq, List.cons.injEq]
    by_cases h : a = b
    · subst h
      rcases ltT_tri s t with h | h | h
      · exact .inl ⟨rfl, h⟩
      · exact .inr (.inl (.inr ⟨rfl, h⟩))
      · exact .inr (.inr (.inr ⟨rfl, h⟩))
    · rcases UInt8.lt_or_lt_of_ne h with h | h
      · exact .inr (.inl (.inl h))
      · exact .inr (.inr (.inl h))
theorem ltM_trans {a b c : Nm} (h1 : ltM a b = true) (h2 : ltM b c = true) : ltM a c = true := by
  simp only [ltM, Bool.or_eq_true, Bool.and_eq_true, decide_eq_true_eq] at h1 h2 ⊢
  rcases h1 with h1 | ⟨e1, h1⟩ <;> rcases h2 with h2 | ⟨e2, h2⟩
  · exact .inl (by omega)
  · exact .inl (by omega)
  · exact .inl (by omega)
  · exact .inr ⟨by omega, ltT_trans h1 h2⟩
theorem ltM_irr (a : Nm) : ltM a a = false := by simp [ltM, ltT_irr]
theorem ltM_tri (a b : Nm) (h : ¬ (a.dir = b.dir ∧ a.name = b.name)) : ltM a b = true ∨ ltM b a = true := by
  simp only [ltM, Bool.or_eq_true, Bool.and_eq_true, decide_eq_true_eq]
  rcases Int.lt_trichotomy a.dir b.dir with h1 | h1 | h1
  · exact .inl (.inl h1)
  · rcases ltT_tri a.name b.name with h2 | h2 | h2
    · exact absurd ⟨h1, h2⟩ h
    · exact .inl (.inr ⟨h1, h2⟩)
    · exact .inr (.inr ⟨h1.symm, h2⟩)
  · exact .inr (.inl h1)
def Srt (L : List Nm) : Prop := L.Pairwise (fun a b => ltM a b = true)
theorem ltM_ne {a b : Nm} (h : ltM a b = true) : ¬ (a.dir = b.dir ∧ a.name = b.name) := by
  rintro ⟨e1, e2⟩
  simp [ltM, e1, e2, ltT_irr] at h
theorem Srt.put {L : List Nm} {x : Nm} (h : Srt L) (hn : ∀ y ∈ L, ¬ (y.dir = x.dir ∧ y.name = x.name)) : Srt (putL L x) := by
  unfold putL Srt
  have hL : L.takeWhile (fun y => !ltM x y) ++ L.dropWhile (fun y => !ltM x y) = L := List.takeWhile_append_dropWhile
  have h1 := h
  unfold Srt at h1
  rw [← hL, List.pairwise_append] at h1
  obtain ⟨p1, p2, p3⟩ := h1
  have ha : ∀ y ∈ L.takeWhile (fun y => !ltM x y), ltM y x = true := fun y hy => by
    have h2 : (!ltM x y) = true := List.all_eq_true.1 (List.all_takeWhile (p := fun y => !ltM x y) (l := L)) y hy
    rcases ltM_tri y x (hn y ((List.takeWhile_sublist _).subset hy)) with h3 | h3
    · exact h3
    · rw [h3] at h2; cases h2
  have hb : ∀ z ∈ L.dropWhile (fun y => !ltM x y), ltM x z = true := by
    generalize hd : L.dropWhile (fun y => !ltM x y) = D
    rw [hd] at p2
    cases D with
    | nil => intro z hz; cases hz
    | cons z0 D =>
      have h0 : ltM x z0 = true := by
        have := List.head_dropWhile_not (p := fun y => !ltM x y) (l := L) (by rw [hd]; exact List.cons_ne_nil _ _)
        simp only [hd, List.head_cons] at this
        simpa using this
      intro z hz
      rcases List.mem_cons.1 hz with rfl | hz
      · exact h0
      · exact ltM_trans h0 ((List.pairwise_cons.1 p2).1 z hz)
  rw [List.pairwise_append]
  refine ⟨p1, List.pairwise_cons.2 ⟨hb, p2⟩, fun y hy z hz => ?_⟩
  rcases List.mem_cons.1 hz with rfl | hz
  · exact ha y hy
  · exact p3 y hy z hz
theorem Srt.drop {L : List Nm} (h : Srt L) (d : Int) (n : List UInt8) : Srt (dropL L d n) := List.Pairwise.filter _ h
theorem Srt.key {L : List Nm} (h : Srt L) {x y : Nm} (hx : x ∈ L) (hy : y ∈ L) (e1 : x.dir = y.dir) (e2 : x.name = y.name) : x = y := by
  induction L with
  | nil => cases hx
  | cons a L ih =>
    obtain ⟨h1, h2⟩ := List.pairwise_cons.1 h
    rcases List.mem_cons.1 hx with rfl | hx'
    · rcases List.mem_cons.1 hy with rfl | hy'
      · rfl
      · exact absurd ⟨e1, e2⟩ (ltM_ne (h1 y hy'))
    · rcases List.mem_cons.1 hy with rfl | hy'
      · exact absurd ⟨e1.symm, e2.symm⟩ (ltM_ne (h1 x hx'))
      · exact ih h2 hx' hy'
theorem drop_none {L : List Nm} {d : Int} {n : List UInt8} (h : ∀ y ∈ L, ¬ (y.dir = d ∧ y.name = n)) : dropL L d n = L := by
  unfold dropL
  rw [List.filter_eq_self]
  intro y hy
  have := h y hy
  by_cases e1 : y.dir = d
  · by_cases e2 : y.name = n
    · exact absurd ⟨e1, e2⟩ this
    · simp [Nm.at, e2]
  · simp [Nm.at, e1]
theorem count_drop {L : List Nm} {x : Nm} (h : Srt L) (hx : x ∈ L) (p : Nm → Bool) : L.countP p = (dropL L x.dir x.name).countP p + (if p x then 1 else 0) := by
  induction L with
  | nil => cases hx
  | cons a L ih =>
    obtain ⟨h1, h2⟩ := List.pairwise_cons.1 h
    rcases List.mem_cons.1 hx with rfl | hx'
    · have e : dropL (x :: L) x.dir x.name = L := by
        show List.filter _ (x :: L) = L
        rw [List.filter_cons_of_neg (by simp [Nm.at])]
        exact drop_none (fun y hy e => ltM_ne (h1 y hy) ⟨e.1.symm, e.2.symm⟩)
      rw [e, List.countP_cons]
    · have e : dropL (a :: L) x.dir x.name = a :: dropL L x.dir x.name := by
        show List.filter _ (a :: L) = _
        have hne := ltM_ne (h1 x hx')
        rw [List.filter_cons_of_pos]
        · rfl
        · by_cases e1 : a.dir = x.dir
          · by_cases e2 : a.name = x.name
            · exact absurd ⟨e1, e2⟩ hne
            · simp [Nm.at, e2]
          · simp [Nm.at, e1]
      rw [e, List.countP_cons, List.countP_cons, ih h2 hx']
      omega
theorem find_mem {s : NS} (h : Srt s.L) {x : Nm} (hx : x ∈ s.L) : findN s x.dir x.name = x.node := by
  unfold findN
  cases hf : s.L.find? (fun y => y.at x.dir x.name) with
  | none =>
    have := List.find?_eq_none.1 hf x hx
    simp [Nm.at] at this
  | some y =>
    have h1 := List.find?_some hf
    simp only [Nm.at, Bool.and_eq_true, decide_eq_true_eq] at h1
    rw [h.key (List.mem_of_find?_eq_some hf) hx h1.1 h1.2]

end Go.Proofs.YtemologkibcdoaaGreatDoor

/- Directories (stage 13): what names keep to: each node's names are as many as lead to it, directories are a tree. -/
namespace Go.Proofs.YtemologkibcdoaaGreatDoor
open Go.RowKit Go.Maps

/-- Each node's names are as many as lead to it; a directory has one name, and its parent is where it stands; none is below itself. -/
structure NV (nm kd : Int → Nat) (L : List Nm) (par : Int → Int) : Prop where
  root : kd 1 = 2
  par1 : par 1 = 1
  srt : Srt L
  dirs : ∀ x ∈ L, kd x.dir = 2 ∧ 1 ≤ nm x.dir
  names : ∀ i, nm i = L.countP (fun x => decide (x.node = i)) + if i = 1 then 1 else 0
  one : ∀ x ∈ L, ∀ y ∈ L, kd x.node = 2 → x.node = y.node → x = y
  par : ∀ x ∈ L, kd x.node = 2 → par x.node = x.dir
  top : ∀ x ∈ L, x.node ≠ 1
  rank : ∃ rk : Int → Nat, ∀ x ∈ L, kd x.node = 2 → rk x.dir < rk x.node
theorem NV.node1 {nm : Int → Nat} {L : List Nm} (hn : ∀ i, nm i = L.countP (fun x => decide (x.node = i)) + if i = 1 then 1 else 0) {x : Nm} (hx : x ∈ L) : 1 ≤ nm x.node := by
  have h1 := hn x.node
  have h2 : 0 < L.countP (fun y => decide (y.node = x.node)) := List.countP_pos_iff.2 ⟨x, hx, by simp⟩
  omega
theorem NV.nm1 {nm kd : Int → Nat} {L : List Nm} {par : Int → Int} (H : NV nm kd L par) : 1 ≤ nm 1 := by
  have := H.names 1
  rw [if_pos rfl] at this
  omega
theorem NV.same {nm kd nm' kd' : Int → Nat} {L : List Nm} {par : Int → Int} (H : NV nm kd L par) (h1 : ∀ i, nm' i = nm i) (h2 : ∀ i, 1 ≤ nm i → kd' i = kd i) : NV nm' kd' L par := by
  have hn : ∀ x ∈ L, kd' x.node = kd x.node := fun x hx => h2 _ (NV.node1 H.names hx)
  have hd : ∀ x ∈ L, kd' x.dir = kd x.dir := fun x hx => h2 _ (H.dirs x hx).2
  obtain ⟨rk, hr⟩ := H.rank
  exact ⟨(h2 1 H.nm1).trans H.root, H.par1, H.srt, fun x hx => ⟨(hd x hx).trans (H.dirs x hx).1, by rw [h1]; exact (H.dirs x hx).2⟩, fun i => (h1 i).trans (H.names i), fun x hx y hy e => H.one x hx y hy ((hn x hx).symm.trans e), fun x hx e => H.par x hx ((hn x hx).symm.trans e), H.top, rk, fun x hx e => hr x hx ((hn x hx).symm.trans e)⟩
theorem NV.add {nm kd nm' kd' : Int → Nat} {L : List Nm} {par par' : Int → Int} (H : NV nm kd L par) {d i : Int} {n : List UInt8} (hd : kd d = 2) (hdn : 1 ≤ nm d) (hk : ∀ y ∈ L, ¬ (y.dir = d ∧ y.name = n)) (hnm : ∀ k, nm' k = nm k + if k = i then 1 else 0) (hkd : ∀ k, 1 ≤ nm k → kd' k = kd k) (hi : i ≠ 1) (hdir : kd' i = 2 → nm i = 0) (hpar : ∀ k, k ≠ i → par' k = par k) (hpi : kd' i = 2 → par' i = d) : NV nm' kd' (putL L ⟨d, n, i⟩) par' := by
  have hn1 : ∀ x ∈ L, 1 ≤ nm x.node := fun x hx => NV.node1 H.names hx
  have hn : ∀ x ∈ L, kd' x.node = kd x.node := fun x hx => hkd _ (hn1 x hx)
  have hne : ∀ x ∈ L, kd' x.node = 2 → x.node ≠ i := fun x hx e e2 => by
    have := hn1 x hx
    rw [e2] at e this
    have := hdir e
    omega
  obtain ⟨rk, hr⟩ := H.rank
  have hdi : kd' i = 2 → d ≠ i := fun e e2 => by have := hdir e; rw [e2] at hdn; omega
  refine ⟨(hkd 1 H.nm1).trans H.root, (hpar 1 (Ne.symm hi)).trans H.par1, H.srt.put hk, fun x hx => ?_, fun k => ?_, fun x hx y hy e e2 => ?_, fun x hx e => ?_, fun x hx => ?_, fun k => if k = i ∧ kd' i = 2 then rk d + 1 else rk k, fun x hx e => ?_⟩
  · rcases mem_put.1 hx with rfl | hx
    · exact ⟨(hkd d hdn).trans hd, by show 1 ≤ nm' d; rw [hnm]; omega⟩
    · have := H.dirs x hx
      exact ⟨(hkd _ this.2).trans this.1, by rw [hnm]; omega⟩
  · rw [count_put, hnm, H.names k]
    by_cases e : k = i
    · subst e; simp; omega
    · simp [e, Ne.symm e]
  · rcases mem_put.1 hx with rfl | hx
    · rcases mem_put.1 hy with rfl | hy
      · rfl
      · exact absurd e2.symm (hne y hy (by rw [← e2]; exact e))
    · rcases mem_put.1 hy with rfl | hy
      · exact absurd e2 (hne x hx e)
      · exact H.one x hx y hy ((hn x hx).symm.trans e) e2
  · rcases mem_put.1 hx with rfl | hx
    · exact hpi e
    · rw [hpar _ (hne x hx e)]
      exact H.par x hx ((hn x hx).symm.trans e)
  · rcases mem_put.1 hx with rfl | hx
    · exact hi
    · exact H.top x hx
  · rcases mem_put.1 hx with rfl | hx
    · show (if d = i ∧ kd' i = 2 then rk d + 1 else rk d) < (if i = i ∧ kd' i = 2 then rk d + 1 else rk i)
      rw [if_neg (c := d = i ∧ kd' i = 2) (fun h => hdi e h.1), if_pos ⟨rfl, e⟩]
      omega
    · have h1 := hne x hx e
      have h2 := H.dirs x hx
      show (if x.dir = i ∧ kd' i = 2 then rk d + 1 else rk x.dir) < (if x.node = i ∧ kd' i = 2 then rk d + 1 else rk x.node)
      rw [if_neg (c := x.dir = i ∧ kd' i = 2) (fun h => by have := hdir h.2; rw [← h.1] at this; omega), if_neg (fun h => h1 h.1)]
      exact hr x hx ((hn x hx).symm.trans e)
theorem NV.gone {nm kd nm' kd' : Int → Nat} {L : List Nm} {par : Int → Int} (H : NV nm kd L par) {x : Nm} (hx : x ∈ L) (hnm : ∀ k, nm' k = nm k - if k = x.node then 1 else 0) (hkd : ∀ k, 1 ≤ nm' k → kd' k = kd k) (hem : kd x.node = 2 → ∀ y ∈ L, y.dir ≠ x.node) : NV nm' kd' (dropL L x.dir x.name) par := by
  have hc : ∀ k, nm' k = (dropL L x.dir x.name).countP (fun y => decide (y.node = k)) + if k = 1 then 1 else 0 := fun k => by
    have h1 := H.names k
    have h2 := count_drop H.srt hx (fun y => decide (y.node = k))
    rw [hnm]
    by_cases e : k = x.node
    · subst e
      simp at h2 ⊢
      omega
    · simp [e, Ne.symm e] at h2 ⊢
      omega
  have hin : ∀ y ∈ dropL L x.dir x.name, y ∈ L := fun y hy => (mem_drop.1 hy).1
  have hn : ∀ y ∈ dropL L x.dir x.name, kd' y.node = kd y.node := fun y hy => hkd _ (NV.node1 hc hy)
  have h1 : nm' 1 = nm 1 := by rw [hnm, if_neg (fun e => H.top x hx e.symm)]; rfl
  obtain ⟨rk, hr⟩ := H.rank
  refine ⟨(hkd 1 (by rw [h1]; exact H.nm1)).trans H.root, H.par1, H.srt.drop _ _, fun y hy => ?_, hc, fun y hy z hz e => H.one y (hin y hy) z (hin z hz) ((hn y hy).symm.trans e), fun y hy e => H.par y (hin y hy) ((hn y hy).symm.trans e), fun y hy => H.top y (hin y hy), rk, fun y hy e => hr y (hin y hy) ((hn y hy).symm.trans e)⟩
  have h2 := H.dirs y (hin y hy)
  have h3 : y.dir ≠ x.node := fun e => hem (by rw [← e]; exact h2.1) y (hin y hy) e
  have h4 : nm' y.dir = nm y.dir := by rw [hnm, if_neg h3]; rfl
  exact ⟨(hkd _ (by rw [h4]; exact h2.2)).trans h2.1, by rw [h4]; exact h2.2⟩
theorem NV.forg {nm kd : Int → Nat} {L : List Nm} {par : Int → Int} (H : NV nm kd L par) (i : Int) : NV nm kd L (fun k => if kd i ≠ 2 ∧ par k = i then 0 else par k) := by
  refine ⟨H.root, ?_, H.srt, H.dirs, H.names, H.one, fun x hx e => ?_, H.top, H.rank⟩
  · show (if kd i ≠ 2 ∧ par 1 = i then 0 else par 1) = 1
    rw [if_neg (fun h => h.1 (by rw [← h.2, H.par1]; exact H.root))]
    exact H.par1
  · show (if kd i ≠ 2 ∧ par x.node = i then 0 else par x.node) = x.dir
    rw [if_neg (fun h => h.1 (by rw [← h.2, H.par x hx e]; exact (H.dirs x hx).1))]
    exact H.par x hx e
def iterP (par : Int → Int) : Nat → Int → Int
  | 0, k => k
  | n + 1, k => iterP par n (par k)
theorem NV.move {nm kd : Int → Nat} {L : List Nm} {par par' : Int → Int} (H : NV nm kd L par) {x : Nm} (hx : x ∈ L) {b : Int} {n : List UInt8} (hb : kd b = 2) (hbn : 1 ≤ nm b) (hk : ∀ y ∈ L, ¬ (y.dir = b ∧ y.name = n)) (hcr : kd x.node = 2 → ∀ m, iterP par m b ≠ x.node) (hpar : ∀ k, k ≠ x.node → par' k = par k) (hpi : kd x.node = 2 → par' x.node = b) : NV nm kd (putL (dropL L x.dir x.name) ⟨b, n, x.node⟩) par' := by
  have hin : ∀ y ∈ dropL L x.dir x.name, y ∈ L := fun y hy => (mem_drop.1 hy).1
  have hoth : ∀ y ∈ dropL L x.dir x.name, kd y.node = 2 → y.node ≠ x.node := fun y hy e e2 => by
    have := H.one y (hin y hy) x hx e e2
    subst this
    exact (mem_drop.1 hy).2 ⟨rfl, rfl⟩
  obtain ⟨rk, hr⟩ := H.rank
  refine ⟨H.root, (hpar 1 (Ne.symm (H.top x hx))).trans H.par1, (H.srt.drop _ _).put (fun y hy => hk y (hin y hy)), fun y hy => ?_, fun k => ?_, fun y hy z hz e e2 => ?_, fun y hy e => ?_, fun y hy => ?_, ?_⟩
  · rcases mem_put.1 hy with rfl | hy
    · exact ⟨hb, hbn⟩
    · exact H.dirs y (hin y hy)
  · rw [count_put, H.names k, count_drop H.srt hx (fun y => decide (y.node = k))]
  · rcases mem_put.1 hy with rfl | hy
    · rcases mem_put.1 hz with rfl | hz
      · rfl
      · exact absurd e2.symm (hoth z hz (by rw [← e2]; exact e))
    · rcases mem_put.1 hz with rfl | hz
      · exact absurd e2 (hoth y hy e)
      · exact H.one y (hin y hy) z (hin z hz) e e2
  · rcases mem_put.1 hy with rfl | hy
    · exact hpi e
    · rw [hpar _ (hoth y hy e)]
      exact H.par y (hin y hy) e
  · rcases mem_put.1 hy with rfl | hy
    · exact H.top x hx
    · exact H.top y (hin y hy)
  · by_cases hD : kd x.node = 2
    · refine ⟨fun k => haveI := Classical.propDecidable (∃ m, iterP par m k = x.node); if ∃ m, iterP par m k = x.node then rk k + rk b + 1 else rk k, fun y hy e => ?_⟩
      rcases mem_put.1 hy with rfl | hy
      · show (haveI := Classical.propDecidable (∃ m, iterP par m b = x.node); if ∃ m, iterP par m b = x.node then rk b + rk b + 1 else rk b) < (haveI := Classical.propDecidable (∃ m, iterP par m x.node = x.node); if ∃ m, iterP par m x.node = x.node then rk x.node + rk b + 1 else rk x.node)
        rw [if_neg (fun ⟨m, h⟩ => hcr hD m h), if_pos ⟨0, rfl⟩]
        omega
      · have hlt := hr y (hin y hy) e
        have hp := H.par y (hin y hy) e
        have hiff : (∃ m, iterP par m y.dir = x.node) ↔ ∃ m, iterP par m y.node = x.node := by
          constructor
          · rintro ⟨m, h⟩
            exact ⟨m + 1, by show iterP par m (par y.node) = _; rw [hp]; exact h⟩
          · rintro ⟨m, h⟩
            cases m with
            | zero => exact absurd h (hoth y hy e)
            | succ m => exact ⟨m, by rw [← hp]; exact h⟩
        show (haveI := Classical.propDecidable (∃ m, iterP par m y.dir = x.node); if ∃ m, iterP par m y.dir = x.node then rk y.dir + rk b + 1 else rk y.dir) < (haveI := Classical.propDecidable (∃ m, iterP par m y.node = x.node); if ∃ m, iterP par m y.node = x.node then rk y.node + rk b + 1 else rk y.node)
        by_cases hm : ∃ m, iterP par m y.node = x.node
        · rw [if_pos (hiff.2 hm), if_pos hm]
          omega
        · rw [if_neg (fun h => hm (hiff.1 h)), if_neg hm]
          exact hlt
    · refine ⟨rk, fun y hy e => ?_⟩
      rcases mem_put.1 hy with rfl | hy
      · exact absurd e hD
      · exact hr y (hin y hy) e

end Go.Proofs.YtemologkibcdoaaGreatDoor

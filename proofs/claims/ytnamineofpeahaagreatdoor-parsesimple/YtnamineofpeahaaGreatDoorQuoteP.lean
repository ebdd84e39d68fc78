/-
  Texts in quotes, plainly.
-/
import Derived.Lib.Replace
import Derived.Lib.Strings
namespace Go.Proofs.YtnamineofpeahaaGreatDoor

/-- Each instance of old, from the left, becomes new. -/
def repAll (old new : List UInt8) : Nat → List UInt8 → List UInt8
 | 0, s => s
 | _ + 1, [] => []
 | f + 1, c :: l => if old.isPrefixOf (c :: l) then new ++ repAll old new f ((c :: l).drop old.length) else c :: repAll old new f l

theorem index_no {old : List UInt8} {c : UInt8} {l : List UInt8} (h : old.isPrefixOf (c :: l) = false) : Lib.index (c :: l) old = if Lib.index l old == -1 then -1 else Lib.index l old + 1 := by
 rw [Lib.index, h]; rfl
theorem index_yes {old : List UInt8} {c : UInt8} {l : List UInt8} (h : old.isPrefixOf (c :: l) = true) : Lib.index (c :: l) old = 0 := by
 rw [Lib.index, h]; rfl
theorem replaceK_no {old new : List UInt8} {c : UInt8} {l : List UInt8} (h : old.isPrefixOf (c :: l) = false) (k : Nat) : Lib.replaceK old new k (c :: l) = c :: Lib.replaceK old new k l := by
 cases k with
 | zero => rfl
 | succ k =>
   rw [Lib.replaceK, Lib.replaceK, index_no h]
   have hge := Lib.index_ge l old
   by_cases e : Lib.index l old = -1
   ·simp [e]
   ·obtain ⟨i, hi⟩ : ∃ i : Nat, Lib.index l old = i := ⟨(Lib.index l old).toNat, by omega⟩
    have e1 : ((i : Int) == -1) = false := by rw [beq_eq_false_iff_ne]; omega
    have e2 : ((i : Int) + 1 == -1) = false := by rw [beq_eq_false_iff_ne]; omega
    have e3 : ((i : Int) + 1).toNat = i + 1 := by omega
    rw [hi, e1]
    simp only [Bool.false_eq_true, if_false, e2, e3, Int.toNat_natCast, List.take_succ_cons, List.cons_append]
    have e4 : i + 1 + old.length = (i + old.length) + 1 := by omega
    rw [e4, List.drop_succ_cons]
theorem countFrom_no {old : List UInt8} {c : UInt8} {l : List UInt8} (h : old.isPrefixOf (c :: l) = false) (g : Nat) : Lib.countFrom old g (c :: l) = Lib.countFrom old g l := by
 cases g with
 | zero => rfl
 | succ g =>
   rw [Lib.countFrom, Lib.countFrom, index_no h]
   have hge := Lib.index_ge l old
   by_cases e : Lib.index l old = -1
   ·simp [e]
   ·obtain ⟨i, hi⟩ : ∃ i : Nat, Lib.index l old = i := ⟨(Lib.index l old).toNat, by omega⟩
    have e1 : ((i : Int) == -1) = false := by rw [beq_eq_false_iff_ne]; omega
    have e2 : ((i : Int) + 1 == -1) = false := by rw [beq_eq_false_iff_ne]; omega
    have e3 : ((i : Int) + 1).toNat = i + 1 := by omega
    rw [hi, e1]
    simp only [Bool.false_eq_true, if_false, e2, e3, Int.toNat_natCast]
    have e4 : i + 1 + old.length = (i + old.length) + 1 := by omega
    rw [e4, List.drop_succ_cons]
theorem replaceK_yes {old new : List UInt8} {c : UInt8} {l : List UInt8} (h : old.isPrefixOf (c :: l) = true) (k : Nat) : Lib.replaceK old new (k + 1) (c :: l) = new ++ Lib.replaceK old new k ((c :: l).drop old.length) := by
 rw [Lib.replaceK, index_yes h]
 have e1 : ((0 : Int) == -1) = false := by decide
 rw [e1]
 simp
theorem countFrom_yes {old : List UInt8} {c : UInt8} {l : List UInt8} (h : old.isPrefixOf (c :: l) = true) (g : Nat) : Lib.countFrom old (g + 1) (c :: l) = Lib.countFrom old g ((c :: l).drop old.length) + 1 := by
 rw [Lib.countFrom, index_yes h]
 have e1 : ((0 : Int) == -1) = false := by decide
 rw [e1]
 simp
 omega

theorem repAll_nil {old new : List UInt8} (f : Nat) : repAll old new f [] = [] := by cases f <;> rfl

theorem replace_eq {old new : List UInt8} (h1 : 1 ≤ old.length) : ∀ (n : Nat) (s : List UInt8), s.length ≤ n → ∀ g, s.length < g → Lib.replaceK old new (Lib.countFrom old g s) s = repAll old new n s := by
 have hnil : Lib.index ([] : List UInt8) old = -1 := by
  rw [Lib.index]
  cases ho : old with
  | nil => rw [ho] at h1; simp at h1
  | cons a t => rfl
 intro n
 induction n with
 | zero =>
   intro s hs g hg
   have : s = [] := List.eq_nil_of_length_eq_zero (by omega)
   subst this
   obtain ⟨g', rfl⟩ : ∃ g', g = g' + 1 := ⟨g - 1, by omega⟩
   rw [Lib.countFrom, hnil]
   rfl
 | succ n ih =>
   intro s hs g hg
   match s, hs, hg with
   | [], _, hg =>
     obtain ⟨g', rfl⟩ : ∃ g', g = g' + 1 := ⟨g - 1, by omega⟩
     rw [Lib.countFrom, hnil]
     rfl
   | c :: l, hs, hg =>
     have hs' : l.length ≤ n := by simpa using hs
     cases hp : old.isPrefixOf (c :: l) with
     | true =>
       obtain ⟨g', rfl⟩ : ∃ g', g = g' + 1 := ⟨g - 1, by omega⟩
       have hd : ((c :: l).drop old.length).length ≤ l.length := by simp; omega
       rw [countFrom_yes hp, replaceK_yes hp, ih _ (by omega) g' (by simp at hg; omega)]
       rw [repAll, if_pos hp]
     | false =>
       rw [countFrom_no hp, replaceK_no hp, ih _ hs' g (by simp at hg; omega)]
       rw [repAll, if_neg (by rw [hp]; decide)]

theorem replaceAll_eq {old new : List UInt8} (h1 : 1 ≤ old.length) (hne : old ≠ new) (s : List UInt8) : Lib.replaceAll s old new = repAll old new s.length s := by
 unfold Lib.replaceAll Lib.replace Lib.replaceNum
 rw [if_neg (by simpa using hne), if_pos (.inl (by decide))]
 exact replace_eq h1 _ s (Nat.le_refl _) _ (Nat.lt_succ_self _)

/-- What a text is between its quotes. -/
def qBody : List UInt8 → List UInt8
 | [] => []
 | c :: l => if c = 39 then 39 :: 92 :: 39 :: 39 :: qBody l else c :: qBody l
def quoteL (s : List UInt8) : List UInt8 := 39 :: (qBody s ++ [39])

theorem qBody_39 (l : List UInt8) : qBody (39 :: l) = 39 :: 92 :: 39 :: 39 :: qBody l := by simp [qBody]
theorem qBody_ne {c : UInt8} (h : c ≠ 39) (l : List UInt8) : qBody (c :: l) = c :: qBody l := by simp [qBody, h]

theorem qBody_len : ∀ l : List UInt8, (qBody l).length ≤ 4 * l.length
 | [] => by simp [qBody]
 | c :: l => by
   have := qBody_len l
   by_cases h : c = 39
   ·subst h; rw [qBody_39]; simp; omega
   ·rw [qBody_ne h]; simp; omega

theorem rep_quote : ∀ (f : Nat) (l : List UInt8), l.length ≤ f → repAll [39] [39, 92, 39, 39] f l = qBody l
 | f, [], _ => by rw [repAll_nil]; rfl
 | 0, _ :: _, h => by simp at h
 | f + 1, c :: l, h => by
   have ih := rep_quote f l (by simpa using h)
   by_cases e : c = 39
   ·subst e
    rw [repAll, if_pos (by simp [List.isPrefixOf]), qBody_39]
    simp [ih]
   ·rw [repAll, if_neg (by simp [List.isPrefixOf]; exact fun x => e x.symm), ih, qBody_ne e]

theorem replace_quote (l : List UInt8) : Lib.replaceAll l [39] [39, 92, 39, 39] = qBody l := by
 rw [replaceAll_eq (by simp) (by decide), rep_quote _ _ (Nat.le_refl _)]

theorem qBody_append : ∀ (a b : List UInt8), qBody (a ++ b) = qBody a ++ qBody b
 | [], b => by simp [qBody]
 | c :: a, b => by
   by_cases h : c = 39
   ·subst h; rw [List.cons_append, qBody_39, qBody_39, qBody_append a b]; simp
   ·rw [List.cons_append, qBody_ne h, qBody_ne h, qBody_append a b]; simp

end Go.Proofs.YtnamineofpeahaaGreatDoor

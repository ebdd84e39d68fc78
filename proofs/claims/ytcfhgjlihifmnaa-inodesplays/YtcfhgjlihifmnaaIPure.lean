/-
  A table of nodes: what it has, and what each call makes of it.
-/
import Derived.Test.YtcfhgjlihifmnaaBCopy
namespace Go.Proofs.Ytcfhgjlihifmnaa
open Go.RowKit

/-- A node: its kind, its names and users, how many bytes it has, what they are (0 behind them), which of its parts have a block. -/
structure Nd where
  kind : Nat
  names : Nat
  users : Nat
  size : Nat
  byt : Nat → UInt8
  has : Nat → Bool
abbrev TB := List (Option Nd)
def cnt (h : Nat → Bool) : Nat := (List.range 64).countP h
def usd (o : Option Nd) : Nat := match o with | none => 0 | some x => cnt x.has
def usedT (T : TB) : Nat := (T.map usd).sum
structure Nd.Good (x : Nd) : Prop where
  kind1 : 1 ≤ x.kind
  kind3 : x.kind ≤ 3
  size : x.size ≤ 4096
  zero : ∀ j, x.size ≤ j → x.byt j = 0
  has : ∀ k, x.has k = true → 64 * k < x.size
/-- The node of a number. -/
def ndAt (T : TB) (i : Int) : Option Nd := if 1 ≤ i then (T[(i - 1).toNat]?).join else none
theorem ndAt_some {T : TB} {i : Int} {x : Nd} (h : ndAt T i = some x) : ∃ k : Nat, i = (k : Int) + 1 ∧ T[k]? = some (some x) ∧ k < T.length := by
  unfold ndAt at h
  split at h
  · refine ⟨(i - 1).toNat, by omega, ?_, ?_⟩
    · rcases h2 : T[(i - 1).toNat]? with _ | o
      · rw [h2] at h; cases h
      · rw [h2] at h
        rw [show o = some x from h]
    · rcases Nat.lt_or_ge (i - 1).toNat T.length with h3 | h3
      · exact h3
      · rw [List.getElem?_eq_none h3] at h
        cases h
  · cases h
theorem ndAt_of {T : TB} {k : Nat} {o : Option Nd} (h : T[k]? = some o) : ndAt T ((k : Int) + 1) = o := by
  unfold ndAt
  rw [if_pos (by omega), show ((k : Int) + 1 - 1).toNat = k by omega, h]
  rfl
theorem ndAt_none {T : TB} {i : Int} (h : ndAt T i = none) : i < 1 ∨ (T.length : Int) < i ∨ ∃ k : Nat, i = (k : Int) + 1 ∧ T[k]? = some none ∧ k < T.length := by
  by_cases h1 : i < 1
  · exact .inl h1
  · by_cases h2 : (T.length : Int) < i
    · exact .inr (.inl h2)
    · refine .inr (.inr ⟨(i - 1).toNat, by omega, ?_, by omega⟩)
      unfold ndAt at h
      rw [if_pos (by omega)] at h
      have h3 : (i - 1).toNat < T.length := by omega
      rw [List.getElem?_eq_getElem h3] at h ⊢
      exact congrArg some h
/-- The place of a node's number. -/
def plc (i : Int) : Nat := (i - 1).toNat
theorem plc_of (k : Nat) : plc ((k : Int) + 1) = k := by unfold plc; omega

/-- What a node's bytes are. -/
def datOf (x : Nd) : List UInt8 := (List.range x.size).map x.byt
theorem datOf_len (x : Nd) : (datOf x).length = x.size := by simp [datOf]
theorem datOf_get (x : Nd) (j : Nat) (h : j < x.size) : (datOf x)[j]? = some (x.byt j) := by
  unfold datOf
  rw [List.getElem?_map, List.getElem?_range h]
  rfl
def nd0 (kind : Nat) : Nd := ⟨kind, 0, 0, 0, fun _ => 0, fun _ => false⟩
def kindOf (o : Option Nd) : Nat := match o with | none => 0 | some x => x.kind
def sizeOfN (o : Option Nd) : Nat := match o with | none => 0 | some x => x.size
def namesOf (o : Option Nd) : Nat := match o with | none => 0 | some x => x.names

def frAt (T : TB) : Nat := T.findIdx (·.isNone)
def kindOk (k : Int) : Bool := decide (1 ≤ k) && decide (k ≤ 3)
def makeN (T : TB) (k : Int) : Int := if kindOk k && decide (frAt T < T.length) then (frAt T : Int) + 1 else 0
def makeE (T : TB) (k : Int) : Int := if kindOk k then (if frAt T < T.length then 0 else 21) else 1
def makeT (T : TB) (k : Int) : TB := if kindOk k && decide (frAt T < T.length) then T.set (frAt T) (some (nd0 k.toNat)) else T
/-- A node that has neither names nor users is no more. -/
def leftN (x : Nd) : Option Nd := if x.names = 0 ∧ x.users = 0 then none else some x
def tieN (x : Nd) : Nd := { x with names := x.names + 1 }
def holdN (x : Nd) : Nd := { x with users := x.users + 1 }
def untN (x : Nd) : Nd := { x with names := x.names - 1 }
def looN (x : Nd) : Nd := { x with users := x.users - 1 }
def tieT (T : TB) (i : Int) : TB := match ndAt T i with | none => T | some x => T.set (plc i) (some (tieN x))
def holdT (T : TB) (i : Int) : TB := match ndAt T i with | none => T | some x => T.set (plc i) (some (holdN x))
def tieE (T : TB) (i : Int) : Int := match ndAt T i with | none => 23 | some _ => 0
def untT (T : TB) (i : Int) : TB := match ndAt T i with | none => T | some x => if x.names = 0 then T else T.set (plc i) (leftN (untN x))
def looT (T : TB) (i : Int) : TB := match ndAt T i with | none => T | some x => if x.users = 0 then T else T.set (plc i) (leftN (looN x))
def untE (T : TB) (i : Int) : Int := match ndAt T i with | none => 23 | some x => if x.names = 0 then 23 else 0
def looE (T : TB) (i : Int) : Int := match ndAt T i with | none => 23 | some x => if x.users = 0 then 23 else 0
def rdT (T : TB) (i a n : Int) : List UInt8 := match ndAt T i with | none => [] | some x => if a < 0 ∨ n < 0 then [] else ((datOf x).drop a.toNat).take n.toNat
def rdE (T : TB) (i a n : Int) : Int := match ndAt T i with | none => 23 | some _ => if a < 0 ∨ n < 0 then 1 else 0
def cutN (x : Nd) (s : Nat) : Nd := { x with size := s, byt := fun j => if j < s then x.byt j else 0, has := fun k => x.has k && decide (64 * k < s) }
def cutE (T : TB) (i s : Int) : Int := match ndAt T i with | none => 23 | some _ => if s < 0 then 1 else if 4096 < s then 3 else 0
def cutT (T : TB) (i s : Int) : TB := match ndAt T i with | none => T | some x => if s < 0 ∨ 4096 < s then T else T.set (plc i) (some (cutN x s.toNat))
/-- The parts that have a block when 'done' bytes from 'a' on are written. -/
def hasP (h : Nat → Bool) (a done : Nat) : Nat → Bool := fun k => h k || (decide (0 < done) && decide (a / 64 ≤ k) && decide (64 * k < a + done))
/-- As many bytes of n are written from a on, 'free' blocks being free. -/
structure PutSp (h : Nat → Bool) (free a n done : Nat) : Prop where
  le : done ≤ n
  max : a + done ≤ 4096
  room : cnt (hasP h a done) ≤ free + cnt h
  ends : done = n ∨ (cnt (hasP h a done) = free + cnt h ∧ h ((a + done) / 64) = false ∧ (done = 0 ∨ (a + done) % 64 = 0))
def putN (x : Nd) (a : Nat) (d : List UInt8) (done : Nat) : Nd :=
  { x with size := Nat.max x.size (a + done), byt := fun j => if a ≤ j ∧ j < a + done then d.getD (j - a) 0 else x.byt j, has := hasP x.has a done }
/-- What Write answers and leaves. -/
inductive WrSp (T : TB) (free : Nat) (i a : Int) (d : List UInt8) : Int → Int → TB → Prop
  | none : ndAt T i = none → WrSp T free i a d 0 23 T
  | arg (x : Nd) : ndAt T i = some x → a < 0 → WrSp T free i a d 0 1 T
  | empty (x : Nd) : ndAt T i = some x → 0 ≤ a → d = [] → WrSp T free i a d 0 0 T
  | big (x : Nd) : ndAt T i = some x → 4096 ≤ a → d ≠ [] → WrSp T free i a d 0 3 T
  | space (x : Nd) (at' : Nat) : ndAt T i = some x → a = at' → at' < 4096 → d ≠ [] → PutSp x.has free at' (min d.length (4096 - at')) 0 → WrSp T free i a d 0 20 T
  | done (x : Nd) (at' n : Nat) : ndAt T i = some x → a = at' → at' < 4096 → d ≠ [] → 0 < n → PutSp x.has free at' (min d.length (4096 - at')) n → WrSp T free i a d n 0 (T.set (plc i) (some (putN x at' d n)))

theorem cnt_le (h : Nat → Bool) : cnt h ≤ 64 := by
  have := List.countP_le_length (p := h) (l := List.range 64)
  simpa [cnt] using this
theorem cnt_mono {h h' : Nat → Bool} (H : ∀ k, h k = true → h' k = true) : cnt h ≤ cnt h' := by
  unfold cnt
  exact List.countP_mono_left (fun k _ => H k)
theorem cnt_range_upd (h : Nat → Bool) (k : Nat) (v : Bool) : ∀ n, k < n → (List.range n).countP (fun j => if j = k then v else h j) + (if h k then 1 else 0) = (List.range n).countP h + (if v then 1 else 0)
  | 0, hk => by omega
  | n + 1, hk => by
    rw [List.range_succ, List.countP_append, List.countP_append, List.countP_singleton, List.countP_singleton]
    by_cases e : k = n
    · subst e
      rw [if_pos rfl]
      have h1 : (List.range k).countP (fun j => if j = k then v else h j) = (List.range k).countP h := by
        apply List.countP_congr
        intro j hj
        rw [if_neg (by have := List.mem_range.1 hj; omega)]
      rw [h1]
      omega
    · rw [show (if n = k then v else h n) = h n from if_neg (fun h2 => e h2.symm)]
      have := cnt_range_upd h k v n (by omega)
      omega
/-- One part comes to have a block, or loses it. -/
theorem cnt_upd (h : Nat → Bool) (k : Nat) (v : Bool) (hk : k < 64) : cnt (fun j => if j = k then v else h j) + (if h k then 1 else 0) = cnt h + (if v then 1 else 0) := cnt_range_upd h k v 64 hk
theorem usedT_set (T : TB) (i : Nat) (o o' : Option Nd) (h : T[i]? = some o) : usedT (T.set i o') + usd o = usedT T + usd o' := by
  unfold usedT
  induction T generalizing i with
  | nil => simp at h
  | cons a T ih =>
    cases i with
    | zero =>
      simp at h
      subst h
      simp
      omega
    | succ i =>
      simp at h
      have := ih i h
      simp only [List.set_cons_succ, List.map_cons, List.sum_cons]
      omega
theorem usd_le {T : TB} {i : Nat} {o : Option Nd} (h : T[i]? = some o) : usd o ≤ usedT T := by
  have := usedT_set T i o none h
  simp [usd] at this
  unfold usd at *
  omega
theorem usedT_none (n : Nat) : usedT (List.replicate n none) = 0 := by
  unfold usedT
  rw [List.map_replicate]
  simp [usd]

theorem PutSp.uniq {h : Nat → Bool} {free a n d1 d2 : Nat} (h1 : PutSp h free a n d1) (h2 : PutSp h free a n d2) : d1 = d2 := by
  have key : ∀ d1 d2, PutSp h free a n d1 → PutSp h free a n d2 → ¬ d1 < d2 := by
    intro d1 d2 h1 h2 hlt
    rcases h1.ends with e | ⟨e1, e2, e3⟩
    · have := h2.le; omega
    · have hb := h2.room
      have hmx := h2.max
      have hk : (a + d1) / 64 < 64 := by omega
      have hno : hasP h a d1 ((a + d1) / 64) = false := by
        unfold hasP
        rw [e2]
        simp only [Bool.false_or, Bool.and_eq_false_iff, decide_eq_false_iff_not]
        rcases e3 with e3 | e3
        · exact .inl (.inl (by omega))
        · exact .inr (by omega)
      have hle : cnt (fun j => if j = (a + d1) / 64 then true else hasP h a d1 j) ≤ cnt (hasP h a d2) := by
        apply cnt_mono
        intro k hk2
        by_cases ek : k = (a + d1) / 64
        · subst ek
          unfold hasP
          rw [e2]
          simp
          omega
        · rw [if_neg ek] at hk2
          unfold hasP at hk2 ⊢
          simp only [Bool.or_eq_true, Bool.and_eq_true, decide_eq_true_eq] at hk2 ⊢
          rcases hk2 with hk2 | hk2
          · exact .inl hk2
          · exact .inr (by omega)
      have := cnt_upd (hasP h a d1) ((a + d1) / 64) true hk
      rw [hno, if_neg (by decide), if_pos rfl] at this
      omega
  rcases Nat.lt_trichotomy d1 d2 with h3 | h3 | h3
  · exact absurd h3 (key _ _ h1 h2)
  · exact h3
  · exact absurd h3 (key _ _ h2 h1)
theorem hasP_zero (h : Nat → Bool) (a : Nat) : hasP h a 0 = h := by
  funext k
  simp [hasP]

theorem nd0_good {k : Int} (h : kindOk k = true) : (nd0 k.toNat).Good := by
  unfold kindOk at h
  simp only [Bool.and_eq_true, decide_eq_true_eq] at h
  exact ⟨show 1 ≤ k.toNat by omega, show k.toNat ≤ 3 by omega, Nat.zero_le _, fun _ _ => rfl, fun _ h => (by cases h)⟩
theorem Nd.Good.cut {x : Nd} (h : x.Good) {s : Nat} (hs : s ≤ 4096) : (cutN x s).Good :=
  ⟨h.kind1, h.kind3, hs, fun j hj => if_neg (by exact Nat.not_lt.2 hj), fun k hk => by simp [cutN] at hk ⊢; exact hk.2⟩
theorem Nd.Good.put {x : Nd} (h : x.Good) {a n : Nat} {d : List UInt8} (hm : a + n ≤ 4096) : (putN x a d n).Good := by
  refine ⟨h.kind1, h.kind3, Nat.max_le.2 ⟨h.size, hm⟩, fun j hj => ?_, fun k hk => ?_⟩
  · have hj : Nat.max x.size (a + n) ≤ j := hj
    have h1 := Nat.max_le.1 hj
    show (if a ≤ j ∧ j < a + n then _ else _) = _
    rw [if_neg (by omega)]
    exact h.zero j h1.1
  · show 64 * k < Nat.max x.size (a + n)
    have hk : hasP x.has a n k = true := hk
    unfold hasP at hk
    simp only [Bool.or_eq_true, Bool.and_eq_true, decide_eq_true_eq] at hk
    rcases hk with hk | hk
    · exact Nat.lt_of_lt_of_le (h.has k hk) (Nat.le_max_left _ _)
    · exact Nat.lt_of_lt_of_le hk.2 (Nat.le_max_right _ _)
/-- Every node of a table is as it should be; no node has more than n names or users. -/
def TGood (T : TB) (n : Nat) : Prop := ∀ (i : Nat) (x : Nd), T[i]? = some (some x) → x.Good ∧ x.names ≤ n ∧ x.users ≤ n
theorem TGood.set {T : TB} {n : Nat} (h : TGood T n) (i : Nat) {o : Option Nd} (ho : ∀ x : Nd, o = some x → x.Good ∧ x.names ≤ n ∧ x.users ≤ n) : TGood (T.set i o) n := by
  intro j x hj
  rw [List.getElem?_set] at hj
  split at hj
  · split at hj
    · injection hj with hj
      exact ho x hj
    · cases hj
  · exact h j x hj
theorem TGood.mono {T : TB} {n m : Nat} (h : TGood T n) (hm : n ≤ m) : TGood T m := fun i x hx => ⟨(h i x hx).1, Nat.le_trans (h i x hx).2.1 hm, Nat.le_trans (h i x hx).2.2 hm⟩

end Go.Proofs.Ytcfhgjlihifmnaa

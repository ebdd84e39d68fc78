/-
  A table of nodes: what it has, and what each call makes of it.
  A table of nodes in memory.
-/
import Derived.Test.YtemologkibcdoaaGreatDoorM04
import Derived.Maps.OwnOps
import Derived.Maps.RangeWalk

/- A table of nodes: what it has, and what each call makes of it. -/
namespace Go.Proofs.YtemologkibcdoaaGreatDoor
open Go.RowKit

/-- A node: its kind, its names and users, how many bytes it has, what they are (0 behind them), which of its parts have a block. -/
structure Nd where
  kind : Nat
  names : Nat
  users : Nat
  size : Nat
  byt : Nat → UInt8
  has : Nat → Bool
abbrev TB := List (Option Nd)
def cnt (h : Nat → Bool) : Nat := (List.range 64).countP h
def usd (o : Option Nd) : Nat := match o with | none => 0 | some x => cnt x.has
def usedT (T : TB) : Nat := (T.map usd).sum
structure Nd.Good (x : Nd) : Prop where
  kind1 : 1 ≤ x.kind
  kind3 : x.kind ≤ 3
  size : x.size ≤ 4096
  zero : ∀ j, x.size ≤ j → x.byt j = 0
  has : ∀ k, x.has k = true → 64 * k < x.size
/-- The node of a number. -/
def ndAt (T : TB) (i : Int) : Option Nd := if 1 ≤ i then (T[(i - 1).toNat]?).join else none
theorem ndAt_some {T : TB} {i : Int} {x : Nd} (h : ndAt T i = some x) : ∃ k : Nat, i = (k : Int) + 1 ∧ T[k]? = some (some x) ∧ k < T.length := by
  unfold ndAt at h
  split at h
  · refine ⟨(i - 1).toNat, by omega, ?_, ?_⟩
    · rcases h2 : T[(i - 1).toNat]? with _ | o
      · rw [h2] at h; cases h
      · rw [h2] at h
        rw [show o = some x from h]
    · rcases Nat.lt_or_ge (i - 1).toNat T.length with h3 | h3
      · exact h3
      · rw [List.getElem?_eq_none h3] at h
        cases h
  · cases h
theorem ndAt_of {T : TB} {k : Nat} {o : Option Nd} (h : T[k]? = some o) : ndAt T ((k : Int) + 1) = o := by
  unfold ndAt
  rw [if_pos (by omega), show ((k : Int) + 1 - 1).toNat = k by omega, h]
  rfl
theorem ndAt_none {T : TB} {i : Int} (h : ndAt T i = none) : i < 1 ∨ (T.length : Int) < i ∨ ∃ k : Nat, i = (k : Int) + 1 ∧ T[k]? = some none ∧ k < T.length := by
  by_cases h1 : i < 1
  · exact .inl h1
  · by_cases h2 : (T.length : Int) < i
    · exact .inr (.inl h2)
    · refine .inr (.inr ⟨(i - 1).toNat, by omega, ?_, by omega⟩)
      unfold ndAt at h
      rw [if_pos (by omega)] at h
      have h3 : (i - 1).toNat < T.length := by omega
      rw [List.getElem?_eq_getElem h3] at h ⊢
      exact congrArg some h
/-- The place of a node's number. -/
def plc (i : Int) : Nat := (i - 1).toNat
theorem plc_of (k : Nat) : plc ((k : Int) + 1) = k := by unfold plc; omega

/-- What a node's bytes are. -/
def datOf (x : Nd) : List UInt8 := (List.range x.size).map x.byt
theorem datOf_len (x : Nd) : (datOf x).length = x.size := by simp [datOf]
theorem datOf_get (x : Nd) (j : Nat) (h : j < x.size) : (datOf x)[j]? = some (x.byt j) := by
  unfold datOf
  rw [List.getElem?_map, List.getElem?_range h]
  rfl
def nd0 (kind : Nat) : Nd := ⟨kind, 0, 0, 0, fun _ => 0, fun _ => false⟩
def kindOf (o : Option Nd) : Nat := match o with | none => 0 | some x => x.kind
def sizeOfN (o : Option Nd) : Nat := match o with | none => 0 | some x => x.size
def namesOf (o : Option Nd) : Nat := match o with | none => 0 | some x => x.names

def frAt (T : TB) : Nat := T.findIdx (·.isNone)
def kindOk (k : Int) : Bool := decide (1 ≤ k) && decide (k ≤ 3)
def makeN (T : TB) (k : Int) : Int := if kindOk k && decide (frAt T < T.length) then (frAt T : Int) + 1 else 0
def makeE (T : TB) (k : Int) : Int := if kindOk k then (if frAt T < T.length then 0 else 21) else 1
def makeT (T : TB) (k : Int) : TB := if kindOk k && decide (frAt T < T.length) then T.set (frAt T) (some (nd0 k.toNat)) else T
/-- A node that has neither names nor users is no more. -/
def leftN (x : Nd) : Option Nd := if x.names = 0 ∧ x.users = 0 then none else some x
def tieN (x : Nd) : Nd := { x with names := x.names + 1 }
def holdN (x : Nd) : Nd := { x with users := x.users + 1 }
def untN (x : Nd) : Nd := { x with names := x.names - 1 }
def looN (x : Nd) : Nd := { x with users := x.users - 1 }
def tieT (T : TB) (i : Int) : TB := match ndAt T i with | none => T | some x => T.set (plc i) (some (tieN x))
def holdT (T : TB) (i : Int) : TB := match ndAt T i with | none => T | some x => T.set (plc i) (some (holdN x))
def tieE (T : TB) (i : Int) : Int := match ndAt T i with | none => 23 | some _ => 0
def untT (T : TB) (i : Int) : TB := match ndAt T i with | none => T | some x => if x.names = 0 then T else T.set (plc i) (leftN (untN x))
def looT (T : TB) (i : Int) : TB := match ndAt T i with | none => T | some x => if x.users = 0 then T else T.set (plc i) (leftN (looN x))
def untE (T : TB) (i : Int) : Int := match ndAt T i with | none => 23 | some x => if x.names = 0 then 23 else 0
def looE (T : TB) (i : Int) : Int := match ndAt T i with | none => 23 | some x => if x.users = 0 then 23 else 0
def rdT (T : TB) (i a n : Int) : List UInt8 := match ndAt T i with | none => [] | some x => if a < 0 ∨ n < 0 then [] else ((datOf x).drop a.toNat).take n.toNat
def rdE (T : TB) (i a n : Int) : Int := match ndAt T i with | none => 23 | some _ => if a < 0 ∨ n < 0 then 1 else 0
def cutN (x : Nd) (s : Nat) : Nd := { x with size := s, byt := fun j => if j < s then x.byt j else 0, has := fun k => x.has k && decide (64 * k < s) }
def cutE (T : TB) (i s : Int) : Int := match ndAt T i with | none => 23 | some _ => if s < 0 then 1 else if 4096 < s then 3 else 0
def cutT (T : TB) (i s : Int) : TB := match ndAt T i with | none => T | some x => if s < 0 ∨ 4096 < s then T else T.set (plc i) (some (cutN x s.toNat))
/-- The parts that have a block when 'done' bytes from 'a' on are written. -/
def hasP (h : Nat → Bool) (a done : Nat) : Nat → Bool := fun k => h k || (decide (0 < done) && decide (a / 64 ≤ k) && decide (64 * k < a + done))
/-- As many bytes of n are written from a on, 'free' blocks being free. -/
structure PutSp (h : Nat → Bool) (free a n done : Nat) : Prop where
  le : done ≤ n
  max : a + done ≤ 4096
  room : cnt (hasP h a done) ≤ free + cnt h
  ends : done = n ∨ (cnt (hasP h a done) = free + cnt h ∧ h ((a + done) / 64) = false ∧ (done = 0 ∨ (a + done) % 64 = 0))
def putN (x : Nd) (a : Nat) (d : List UInt8) (done : Nat) : Nd :=
  { x with size := Nat.max x.size (a + done), byt := fun j => if a ≤ j ∧ j < a + done then d.getD (j - a) 0 else x.byt j, has := hasP x.has a done }
/-- What Write answers and leaves. -/
inductive WrSp (T : TB) (free : Nat) (i a : Int) (d : List UInt8) : Int → Int → TB → Prop
  | none : ndAt T i = none → WrSp T free i a d 0 23 T
  | arg (x : Nd) : ndAt T i = some x → a < 0 → WrSp T free i a d 0 1 T
  | empty (x : Nd) : ndAt T i = some x → 0 ≤ a → d = [] → WrSp T free i a d 0 0 T
  | big (x : Nd) : ndAt T i = some x → 4096 ≤ a → d ≠ [] → WrSp T free i a d 0 3 T
  | space (x : Nd) (at' : Nat) : ndAt T i = some x → a = at' → at' < 4096 → d ≠ [] → PutSp x.has free at' (min d.length (4096 - at')) 0 → WrSp T free i a d 0 20 T
  | done (x : Nd) (at' n : Nat) : ndAt T i = some x → a = at' → at' < 4096 → d ≠ [] → 0 < n → PutSp x.has free at' (min d.length (4096 - at')) n → WrSp T free i a d n 0 (T.set (plc i) (some (putN x at' d n)))

theorem cnt_le (h : Nat → Bool) : cnt h ≤ 64 := by
  have := List.countP_le_length (p := h) (l := List.range 64)
  simpa [cnt] using this
theorem cnt_mono {h h' : Nat → Bool} (H : ∀ k, h k = true → h' k = true) : cnt h ≤ cnt h' := by
  unfold cnt
  exact List.countP_mono_left (fun k _ => H k)
theorem cnt_range_upd (h : Nat → Bool) (k : Nat) (v : Bool) : ∀ n, k < n → (List.range n).countP (fun j => if j = k then v else h j) + (if h k then 1 else 0) = (List.range n).countP h + (if v then 1 else 0)
  | 0, hk => by omega
  | n + 1, hk => by
    rw [List.range_succ, List.countP_append, List.countP_append, List.countP_singleton, List.countP_singleton]
    by_cases e : k = n
    · subst e
      rw [if_pos rfl]
      have h1 : (List.range k).countP (fun j => if j = k then v else h j) = (List.range k).countP h := by
        apply List.countP_congr
        intro j hj
        rw [if_neg (by have := List.mem_range.1 hj; omega)]
      rw [h1]
      omega
    · rw [show (if n = k then v else h n) = h n from if_neg (fun h2 => e h2.symm)]
      have := cnt_range_upd h k v n (by omega)
      omega
/-- One part comes to have a block, or loses it. -/
theorem cnt_upd (h : Nat → Bool) (k : Nat) (v : Bool) (hk : k < 64) : cnt (fun j => if j = k then v else h j) + (if h k then 1 else 0) = cnt h + (if v then 1 else 0) := cnt_range_upd h k v 64 hk
theorem usedT_set (T : TB) (i : Nat) (o o' : Option Nd) (h : T[i]? = some o) : usedT (T.set i o') + usd o = usedT T + usd o' := by
  unfold usedT
  induction T generalizing i with
  | nil => simp at h
  | cons a T ih =>
    cases i with
    | zero =>
      simp at h
      subst h
      simp
      omega
    | succ i =>
      simp at h
      have := ih i h
      simp only [List.set_cons_succ, List.map_cons, List.sum_cons]
      omega
theorem usd_le {T : TB} {i : Nat} {o : Option Nd} (h : T[i]? = some o) : usd o ≤ usedT T := by
  have := usedT_set T i o none h
  simp [usd] at this
  unfold usd at *
  omega
theorem usedT_none (n : Nat) : usedT (List.replicate n none) = 0 := by
  unfold usedT
  rw [List.map_replicate]
  simp [usd]

theorem PutSp.uniq {h : Nat → Bool} {free a n d1 d2 : Nat} (h1 : PutSp h free a n d1) (h2 : PutSp h free a n d2) : d1 = d2 := by
  have key : ∀ d1 d2, PutSp h free a n d1 → PutSp h free a n d2 → ¬ d1 < d2 := by
    intro d1 d2 h1 h2 hlt
    rcases h1.ends with e | ⟨e1, e2, e3⟩
    · have := h2.le; omega
    · have hb := h2.room
      have hmx := h2.max
      have hk : (a + d1) / 64 < 64 := by omega
      have hno : hasP h a d1 ((a + d1) / 64) = false := by
        unfold hasP
        rw [e2]
        simp only [Bool.false_or, Bool.and_eq_false_iff, decide_eq_false_iff_not]
        rcases e3 with e3 | e3
        · exact .inl (.inl (by omega))
        · exact .inr (by omega)
      have hle : cnt (fun j => if j = (a + d1) / 64 then true else hasP h a d1 j) ≤ cnt (hasP h a d2) := by
        apply cnt_mono
        intro k hk2
        by_cases ek : k = (a + d1) / 64
        · subst ek
          unfold hasP
          rw [e2]
          simp
          omega
        · rw [if_neg ek] at hk2
          unfold hasP at hk2 ⊢
          simp only [Bool.or_eq_true, Bool.and_eq_true, decide_eq_true_eq] at hk2 ⊢
          rcases hk2 with hk2 | hk2
          · exact .inl hk2
          · exact .inr (by omega)
      have := cnt_upd (hasP h a d1) ((a + d1) / 64) true hk
      rw [hno, if_neg (by decide), if_pos rfl] at this
      omega
  rcases Nat.lt_trichotomy d1 d2 with h3 | h3 | h3
  · exact absurd h3 (key _ _ h1 h2)
  · exact h3
  · exact absurd h3 (key _ _ h2 h1)
theorem hasP_zero (h : Nat → Bool) (a : Nat) : hasP h a 0 = h := by
  funext k
  simp [hasP]

theorem nd0_good {k : Int} (h : kindOk k = true) : (nd0 k.toNat).Good := by
  unfold kindOk at h
  simp only [Bool.and_eq_true, decide_eq_true_eq] at h
  exact ⟨show 1 ≤ k.toNat by omega, show k.toNat ≤ 3 by omega, Nat.zero_le _, fun _ _ => rfl, fun _ h => (by cases h)⟩
theorem Nd.Good.cut {x : Nd} (h : x.Good) {s : Nat} (hs : s ≤ 4096) : (cutN x s).Good :=
  ⟨h.kind1, h.kind3, hs, fun j hj => if_neg (by exact Nat.not_lt.2 hj), fun k hk => by simp [cutN] at hk ⊢; exact hk.2⟩
theorem Nd.Good.put {x : Nd} (h : x.Good) {a n : Nat} {d : List UInt8} (hm : a + n ≤ 4096) : (putN x a d n).Good := by
  refine ⟨h.kind1, h.kind3, Nat.max_le.2 ⟨h.size, hm⟩, fun j hj => ?_, fun k hk => ?_⟩
  · have hj : Nat.max x.size (a + n) ≤ j := hj
    have h1 := Nat.max_le.1 hj
    show (if a ≤ j ∧ j < a + n then _ else _) = _
    rw [if_neg (by omega)]
    exact h.zero j h1.1
  · show 64 * k < Nat.max x.size (a + n)
    have hk : hasP x.has a n k = true := hk
    unfold hasP at hk
    simp only [Bool.or_eq_true, Bool.and_eq_true, decide_eq_true_eq] at hk
    rcases hk with hk | hk
    · exact Nat.lt_of_lt_of_le (h.has k hk) (Nat.le_max_left _ _)
    · exact Nat.lt_of_lt_of_le hk.2 (Nat.le_max_right _ _)
/-- Every node of a table is as it should be; no node has more than n names or users. -/
def TGood (T : TB) (n : Nat) : Prop := ∀ (i : Nat) (x : Nd), T[i]? = some (some x) → x.Good ∧ x.names ≤ n ∧ x.users ≤ n
theorem TGood.set {T : TB} {n : Nat} (h : TGood T n) (i : Nat) {o : Option Nd} (ho : ∀ x : Nd, o = some x → x.Good ∧ x.names ≤ n ∧ x.users ≤ n) : TGood (T.set i o) n := by
  intro j x hj
  rw [List.getElem?_set] at hj
  split at hj
  · split at hj
    · injection hj with hj
      exact ho x hj
    · cases hj
  · exact h j x hj
theorem TGood.mono {T : TB} {n m : Nat} (h : TGood T n) (hm : n ≤ m) : TGood T m := fun i x hx => ⟨(h i x hx).1, Nat.le_trans (h i x hx).2.1 hm, Nat.le_trans (h i x hx).2.2 hm⟩

end Go.Proofs.YtemologkibcdoaaGreatDoor

/- A table of nodes in memory. -/
namespace Go.Proofs.YtemologkibcdoaaGreatDoor
open Go.RowKit

theorem lawI : Maps.Keyed Tryz.prog 3 := Maps.int_keyed Tryz.underlying3
noncomputable abbrev PE : Value → Option (DataW Unit × List MemPlace) := plainElem Tryz.prog 3
abbrev PF := Nat → Option Nat
def isS (pf : PF) (k : Nat) : Bool := (pf k).isSome
/-- The map's reading: which part has which block (counted from 1 on). -/
structure Reads (D : DataW Unit) (pf : PF) : Prop where
  isMap : Maps.IsMap D
  tidy : Maps.Tidy D
  has : ∀ k : Int, Maps.has D (.int .i64 k) = (decide (0 ≤ k) && isS pf k.toNat)
  at' : ∀ (k b : Nat), pf k = some b → ∀ z, D.atKey (.int .i64 (k : Int)) z = .lit (.int .i64 ((b : Int) + 1))
  size : Maps.size D = cnt (isS pf)
  few : ∀ k, isS pf k = true → k < 64
/-- A node's memory: its five cells at q, its map at m. -/
structure NAt (w : World) (q m : Nat) (x : Nd) (pf : PF) : Prop where
  blk : Blk w q 155 #[.int .i64 (x.names : Int), .int .i64 (x.users : Int), .int .i64 (x.kind : Int), .int .i64 (x.size : Int), .map (some m)]
  own : ∃ D, w.ownsMap Tryz.prog 3 PE m (Maps.size D) D ∧ Reads D pf
structure Lay where
  g : Nat
  c : Nat
  s : Nat
  gs : Nat
  hs : Nat
  q : Nat → Nat
  m : Nat → Nat
  pf : Nat → PF
  l : BL
def ptrN (q : Nat) (o : Option Nd) : Value := match o with | none => .pointer none | some _ => .pointer (some ⟨q, 0, none⟩)
def byteOf (l : BL) (pf : PF) (j : Nat) : UInt8 := match pf (j / 64) with | none => 0 | some b => bAt l b (j % 64)
/-- The nodes' row. -/
structure NRow (w : World) (g c : Nat) (q : Nat → Nat) (T : TB) : Prop where
  pos : 1 ≤ T.length
  max : T.length ≤ 1024
  lies : ∃ cs, Blk w g 128 cs ∧ cs.size = c ∧ T.length ≤ c ∧ c ≤ maxLen ∧ ∀ (i : Nat) (o : Option Nd), T[i]? = some o → cs[i]? = some (ptrN (q i) o)
structure TL (w : World) (p : Nat) (L : Lay) (T : TB) : Prop where
  tab : Blk w p 127 #[.slice (some ⟨L.g, 0, none⟩) T.length L.c, .pointer (some ⟨L.s, 0, none⟩)]
  row : NRow w L.g L.c L.q T
  store : BAt w L.s L.gs L.hs L.l
  node : ∀ (i : Nat) (x : Nd), T[i]? = some (some x) → NAt w (L.q i) (L.m i) x (L.pf i)
  apart : ∀ (i j : Nat) (x y : Nd), T[i]? = some (some x) → T[j]? = some (some y) → i ≠ j → L.q i ≠ L.q j ∧ L.m i ≠ L.m j
  has : ∀ (i : Nat) (x : Nd), T[i]? = some (some x) → ∀ k, x.has k = isS (L.pf i) k
  part : ∀ (i : Nat) (x : Nd), T[i]? = some (some x) → ∀ k b, L.pf i k = some b → ∃ y, L.l[b]? = some y ∧ y ≠ []
  one : ∀ (i j : Nat) (x y : Nd), T[i]? = some (some x) → T[j]? = some (some y) → ∀ k k' b, L.pf i k = some b → L.pf j k' = some b → i = j ∧ k = k'
  byte : ∀ (i : Nat) (x : Nd), T[i]? = some (some x) → ∀ j, x.byt j = byteOf L.l (L.pf i) j
  count : freeN L.l + usedT T = L.l.length
/-- All its blocks are X's. -/
structure Lay.In (L : Lay) (T : TB) (p : Nat) (X : Nat → Prop) : Prop where
  p : X p
  g : X L.g
  s : X L.s
  gs : X L.gs
  hs : X L.hs
  each : ∀ (i : Nat) (x : Nd), T[i]? = some (some x) → X (L.q i) ∧ X (L.m i)
def TAt (w : World) (p : Nat) (X : Nat → Prop) (T : TB) (nb : Nat) : Prop := ∃ L, TL w p L T ∧ L.In T p X ∧ L.l.length = nb

theorem map_ne {w : World} {a b : Nat} {t : TypeId} {cs : Array Value} {n : Nat} {D : DataW Unit} (h : Blk w a t cs) (h2 : w.ownsMap Tryz.prog 3 PE b n D) : a ≠ b := by
  rintro rfl
  obtain ⟨es, clock, hb, _⟩ := h2
  have h3 := (show w.heap[a]? = _ from h).symm.trans hb
  cases h3
theorem ownsMap_grownS {w w' : World} {S : Nat → Prop} {b n : Nat} {D : DataW Unit} (h : w.ownsMap Tryz.prog 3 PE b n D) (hg : GrownS w w' S) (hb : ¬ S b) : w'.ownsMap Tryz.prog 3 PE b n D := by
  have hlt := h.lt
  obtain ⟨es, clock, h1, r⟩ := h
  exact ⟨es, clock, (hg.block b hlt hb).trans h1, r⟩
theorem NAt.grownS {w w' : World} {q m : Nat} {x : Nd} {pf : PF} {S : Nat → Prop} (h : NAt w q m x pf) (hg : GrownS w w' S) (hq : ¬ S q) (hm : ¬ S m) : NAt w' q m x pf := by
  obtain ⟨h1, D, h2, h3⟩ := h
  exact ⟨h1.grownS hg hq, D, ownsMap_grownS h2 hg hm, h3⟩
theorem NAt.lt {w : World} {q m : Nat} {x : Nd} {pf : PF} (h : NAt w q m x pf) : q < w.heap.size ∧ m < w.heap.size := by
  obtain ⟨h1, D, h2, h3⟩ := h
  exact ⟨h1.lt, h2.lt⟩
theorem NRow.grownS {w w' : World} {g c : Nat} {q : Nat → Nat} {T : TB} {S : Nat → Prop} (h : NRow w g c q T) (hg : GrownS w w' S) (hs : ¬ S g) : NRow w' g c q T := by
  obtain ⟨h1, h2, cs, h3, h4⟩ := h
  exact ⟨h1, h2, cs, h3.grownS hg hs, h4⟩
/-- How a store's four blocks and a node's two differ from all else, by what lies in them. -/
theorem TL.ne {w : World} {p : Nat} {L : Lay} {T : TB} (H : TL w p L T) {i : Nat} {x : Nd} (hi : T[i]? = some (some x)) :
    (L.q i ≠ p ∧ L.q i ≠ L.g ∧ L.q i ≠ L.s ∧ L.q i ≠ L.gs ∧ L.q i ≠ L.hs) ∧ (L.m i ≠ p ∧ L.m i ≠ L.g ∧ L.m i ≠ L.s ∧ L.m i ≠ L.gs ∧ L.m i ≠ L.hs) := by
  obtain ⟨cs, hr, _⟩ := H.row.lies
  obtain ⟨_, c, d, cs2, ds, k1, k2, k3, _⟩ := H.store
  obtain ⟨n1, D, n2, _⟩ := H.node i x hi
  exact ⟨⟨blk_ne n1 H.tab (by decide), blk_ne n1 hr (by decide), blk_ne n1 k1 (by decide), blk_ne n1 k2 (by decide), blk_ne n1 k3 (by decide)⟩,
    ⟨(map_ne H.tab n2).symm, (map_ne hr n2).symm, (map_ne k1 n2).symm, (map_ne k2 n2).symm, (map_ne k3 n2).symm⟩⟩
theorem TL.ne2 {w : World} {p : Nat} {L : Lay} {T : TB} (H : TL w p L T) :
    (p ≠ L.g ∧ p ≠ L.s ∧ p ≠ L.gs ∧ p ≠ L.hs) ∧ (L.g ≠ L.s ∧ L.g ≠ L.gs ∧ L.g ≠ L.hs) := by
  obtain ⟨cs, hr, _⟩ := H.row.lies
  obtain ⟨_, c, d, cs2, ds, k1, k2, k3, _⟩ := H.store
  exact ⟨⟨blk_ne H.tab hr (by decide), blk_ne H.tab k1 (by decide), blk_ne H.tab k2 (by decide), blk_ne H.tab k3 (by decide)⟩, ⟨blk_ne hr k1 (by decide), blk_ne hr k2 (by decide), blk_ne hr k3 (by decide)⟩⟩
theorem TL.qm {w : World} {p : Nat} {L : Lay} {T : TB} (H : TL w p L T) {i j : Nat} {x y : Nd} (hi : T[i]? = some (some x)) (hj : T[j]? = some (some y)) : L.q i ≠ L.m j := by
  obtain ⟨n1, _⟩ := H.node i x hi
  obtain ⟨_, D, n2, _⟩ := H.node j y hj
  exact map_ne n1 n2
theorem TL.lt {w : World} {p : Nat} {L : Lay} {T : TB} (H : TL w p L T) : L.In T p (fun k => k < w.heap.size) := by
  obtain ⟨cs, hr, _⟩ := H.row.lies
  obtain ⟨s1, s2, s3⟩ := H.store.lt
  exact ⟨H.tab.lt, hr.lt, s1, s2, s3, fun i x hi => (H.node i x hi).lt⟩
theorem TL.grownS {w w' : World} {p : Nat} {L : Lay} {T : TB} {S : Nat → Prop} (H : TL w p L T) (hg : GrownS w w' S) (hin : L.In T p (fun k => ¬ S k)) : TL w' p L T :=
  ⟨H.tab.grownS hg hin.p, H.row.grownS hg hin.g, H.store.grownS hg hin.s hin.gs hin.hs, fun i x hi => (H.node i x hi).grownS hg (hin.each i x hi).1 (hin.each i x hi).2, H.apart, H.has, H.part, H.one, H.byte, H.count⟩
theorem Lay.In.mono {L : Lay} {T : TB} {p : Nat} {X Y : Nat → Prop} (h : L.In T p X) (hxy : ∀ k, X k → Y k) : L.In T p Y :=
  ⟨hxy _ h.p, hxy _ h.g, hxy _ h.s, hxy _ h.gs, hxy _ h.hs, fun i x hi => ⟨hxy _ (h.each i x hi).1, hxy _ (h.each i x hi).2⟩⟩
theorem Lay.In.and {L : Lay} {T : TB} {p : Nat} {X Y : Nat → Prop} (h : L.In T p X) (h2 : L.In T p Y) : L.In T p (fun k => X k ∧ Y k) :=
  ⟨⟨h.p, h2.p⟩, ⟨h.g, h2.g⟩, ⟨h.s, h2.s⟩, ⟨h.gs, h2.gs⟩, ⟨h.hs, h2.hs⟩, fun i x hi => ⟨⟨(h.each i x hi).1, (h2.each i x hi).1⟩, ⟨(h.each i x hi).2, (h2.each i x hi).2⟩⟩⟩
theorem TAt.mono {w : World} {p nb : Nat} {X Y : Nat → Prop} {T : TB} (h : TAt w p X T nb) (hxy : ∀ k, k < w.heap.size → X k → Y k) : TAt w p Y T nb := by
  obtain ⟨L, h1, h2, h3⟩ := h
  exact ⟨L, h1, (h1.lt.and h2).mono (fun k hk => hxy k hk.1 hk.2), h3⟩
theorem TAt.grownS {w w' : World} {p nb : Nat} {X S : Nat → Prop} {T : TB} (h : TAt w p X T nb) (hg : GrownS w w' S) (hd : ∀ k, k < w.heap.size → X k → ¬ S k) : TAt w' p X T nb := by
  obtain ⟨L, h1, h2, h3⟩ := h
  exact ⟨L, h1.grownS hg ((h1.lt.and h2).mono (fun k hk => hd k hk.1 hk.2)), h2, h3⟩
theorem TAt.below {w w' : World} {p nb : Nat} {X : Nat → Prop} {T : TB} (h : TAt w p X T nb) (hb : Below w.heap.size w w') : TAt w' p X T nb := h.grownS (S := fun _ => False) (grownS_of_below hb) (fun _ _ _ e => e)

def updF (f : Nat → PF) (i : Nat) (pf : PF) : Nat → PF := fun j => if j = i then pf else f j
theorem set_same {T : TB} {i : Nat} {o o' : Option Nd} (h : T[i]? = some o) : (T.set i o')[i]? = some o' := by
  rw [List.getElem?_set, if_pos rfl, if_pos (List.getElem?_eq_some_iff.1 h).1]
theorem set_other {T : TB} {i j : Nat} {o' : Option Nd} (h : i ≠ j) : (T.set i o')[j]? = T[j]? := by
  rw [List.getElem?_set, if_neg h]
theorem set_get {T : TB} {i j : Nat} {o o' : Option Nd} {y : Nd} (h : T[i]? = some o) (hj : (T.set i o')[j]? = some (some y)) : (j = i ∧ o' = some y) ∨ (j ≠ i ∧ T[j]? = some (some y)) := by
  by_cases e : j = i
  · subst e
    rw [set_same h] at hj
    injection hj with hj
    exact .inl ⟨rfl, hj⟩
  · rw [set_other (fun h2 => e h2.symm)] at hj
    exact .inr ⟨e, hj⟩

/-- One node turns, and with it the store: the table stands. -/
theorem TL.step {w w' : World} {p : Nat} {L : Lay} {T : TB} (H : TL w p L T) {i : Nat} {x x' : Nd} (hi : T[i]? = some (some x)) {S : Nat → Prop} (hg : GrownS w w' S) (hS : ∀ k, k < w.heap.size → S k → k = L.q i ∨ k = L.m i ∨ k = L.gs ∨ k = L.hs)
    {pf' : PF} {l' : BL} (hst : BAt w' L.s L.gs L.hs l') (hn : NAt w' (L.q i) (L.m i) x' pf') (hhas : ∀ k, x'.has k = isS pf' k) (hpart : ∀ k b, pf' k = some b → ∃ y, l'[b]? = some y ∧ y ≠ [])
    (hone : ∀ k k' b, pf' k = some b → pf' k' = some b → k = k') (hoth : ∀ (j : Nat) (y : Nd) k b, j ≠ i → T[j]? = some (some y) → L.pf j k = some b → (∀ k', pf' k' ≠ some b) ∧ l'[b]? = L.l[b]?)
    (hbyt : ∀ j, x'.byt j = byteOf l' pf' j) (hcount : freeN l' + cnt x'.has = freeN L.l + cnt x.has) (hlen : l'.length = L.l.length) :
    TL w' p { L with pf := updF L.pf i pf', l := l' } (T.set i (some x')) := by
  have ne1 := H.ne hi
  have ne2 := H.ne2
  have lt := H.lt
  have nS : ∀ k, k < w.heap.size → k ≠ L.q i → k ≠ L.m i → k ≠ L.gs → k ≠ L.hs → ¬ S k := fun k hk h1 h2 h3 h4 hs => by rcases hS k hk hs with e | e | e | e; exact h1 e; exact h2 e; exact h3 e; exact h4 e
  have ln : (T.set i (some x')).length = T.length := List.length_set
  have px : ∀ j, j ≠ i → updF L.pf i pf' j = L.pf j := fun j hj => if_neg hj
  have pi : updF L.pf i pf' i = pf' := if_pos rfl
  refine ⟨?_, ?_, hst, ?_, ?_, ?_, ?_, ?_, ?_, ?_⟩
  · rw [ln]
    exact H.tab.grownS hg (nS p lt.p ne1.1.1.symm ne1.2.1.symm ne2.1.2.2.1 ne2.1.2.2.2)
  · obtain ⟨h1, h2, cs, h3, h4, h5, h6, h7⟩ := H.row.grownS hg (nS L.g lt.g ne1.1.2.1.symm ne1.2.2.1.symm ne2.2.2.1 ne2.2.2.2)
    refine ⟨by rw [ln]; exact h1, by rw [ln]; exact h2, cs, h3, h4, by rw [ln]; exact h5, h6, fun j o hj => ?_⟩
    by_cases e : j = i
    · subst e
      rw [set_same hi] at hj
      injection hj with hj
      subst hj
      exact h7 j (some x) hi
    · rw [set_other (fun h2 => e h2.symm)] at hj
      exact h7 j o hj
  · intro j y hj
    rcases set_get hi hj with ⟨rfl, e⟩ | ⟨e, hj⟩
    · injection e with e
      subst e
      show NAt w' (L.q j) (L.m j) x' (updF L.pf j pf' j)
      rw [pi]
      exact hn
    · show NAt w' (L.q j) (L.m j) y (updF L.pf i pf' j)
      rw [px j e]
      have n2 := H.ne hj
      have ap := H.apart j i y x hj hi e
      exact (H.node j y hj).grownS hg (nS _ (lt.each j y hj).1 ap.1 (H.qm hj hi) n2.1.2.2.2.1 n2.1.2.2.2.2) (nS _ (lt.each j y hj).2 (H.qm hi hj).symm ap.2 n2.2.2.2.2.1 n2.2.2.2.2.2)
  · intro j k y z hj hk hne
    have hq : ∀ j y, (T.set i (some x'))[j]? = some (some y) → ∃ y, T[j]? = some (some y) := fun j y hj => by
      rcases set_get hi hj with ⟨rfl, e⟩ | ⟨e, hj⟩
      · exact ⟨x, hi⟩
      · exact ⟨y, hj⟩
    obtain ⟨y', hy⟩ := hq j y hj
    obtain ⟨z', hz⟩ := hq k z hk
    exact H.apart j k y' z' hy hz hne
  · intro j y hj k
    show y.has k = isS (updF L.pf i pf' j) k
    rcases set_get hi hj with ⟨rfl, e⟩ | ⟨e, hj⟩
    · injection e with e
      subst e
      rw [pi]
      exact hhas k
    · rw [px j e]
      exact H.has j y hj k
  · intro j y hj k b hb
    have hb : updF L.pf i pf' j k = some b := hb
    show ∃ y, l'[b]? = some y ∧ y ≠ []
    rcases set_get hi hj with ⟨rfl, e⟩ | ⟨e, hj⟩
    · rw [pi] at hb
      exact hpart k b hb
    · rw [px j e] at hb
      rw [(hoth j y k b e hj hb).2]
      exact H.part j y hj k b hb
  · intro j k y z hj hk a a' b hb hb'
    have hb1 : updF L.pf i pf' j a = some b := hb
    have hb2 : updF L.pf i pf' k a' = some b := hb'
    clear hb hb'
    rcases set_get hi hj with ⟨e1, e⟩ | ⟨e, hj1⟩
    · rw [e1, pi] at hb1
      rcases set_get hi hk with ⟨e3, e2⟩ | ⟨e2, hk1⟩
      · rw [e3, pi] at hb2
        exact ⟨by rw [e1, e3], hone a a' b hb1 hb2⟩
      · rw [px k e2] at hb2
        exact absurd hb1 ((hoth k z a' b e2 hk1 hb2).1 a)
    · rw [px j e] at hb1
      rcases set_get hi hk with ⟨e3, e2⟩ | ⟨e2, hk1⟩
      · rw [e3, pi] at hb2
        exact absurd hb2 ((hoth j y a b e hj1 hb1).1 a')
      · rw [px k e2] at hb2
        exact H.one j k y z hj1 hk1 a a' b hb1 hb2
  · intro j y hj k
    show y.byt k = byteOf l' (updF L.pf i pf' j) k
    rcases set_get hi hj with ⟨rfl, e⟩ | ⟨e, hj⟩
    · injection e with e
      subst e
      rw [pi]
      exact hbyt k
    · rw [px j e, H.byte j y hj k]
      unfold byteOf
      cases hc : L.pf j (k / 64) with
      | none => rfl
      | some b =>
        show bAt L.l b _ = bAt l' b _
        unfold bAt
        rw [List.getD_eq_getElem?_getD (l := L.l), List.getD_eq_getElem?_getD (l := l'), (hoth j y _ b e hj hc).2]
  · show freeN l' + usedT (T.set i (some x')) = l'.length
    have h1 := usedT_set T i (some x) (some x') hi
    have h2 := H.count
    rw [hlen]
    simp only [usd] at h1
    omega

theorem Lay.In.step {L : Lay} {T : TB} {p : Nat} {X : Nat → Prop} (h : L.In T p X) {i : Nat} {x : Nd} (hi : T[i]? = some (some x)) (x' : Nd) (f : Nat → PF) (l' : BL) : Lay.In { L with pf := f, l := l' } (T.set i (some x')) p X :=
  ⟨h.p, h.g, h.s, h.gs, h.hs, fun j y hj => by
    rcases set_get hi hj with ⟨rfl, e⟩ | ⟨e, hj⟩
    · exact h.each _ x hi
    · exact h.each j y hj⟩

end Go.Proofs.YtemologkibcdoaaGreatDoor

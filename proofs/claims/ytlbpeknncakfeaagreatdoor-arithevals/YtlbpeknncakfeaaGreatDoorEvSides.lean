/-
  The document's reader of expressions: its whole state, and what each of its great methods comes to.
  Operators of a rank, and sides of the next one: the document's 'sides'.
  The walk of the document's 'sides'.
  A round of the document's 'sides', and all of them.
-/
import Derived.Test.YtlbpeknncakfeaaGreatDoorEvMap
import Derived.Test.YtlbpeknncakfeaaGreatDoorEvAsk
import Derived.Test.YtlbpeknncakfeaaGreatDoorLists

/- The document's reader of expressions: its whole state, and what each of its great methods comes to. -/
namespace Go.Proofs.YtlbpeknncakfeaaGreatDoor
open Go.RowKit Go.Maps
attribute [local irreducible] findOp findSign

/-- Block b is the work on s, with what is set, and the variables. -/
structure Ws (w : World) (n₀ b : Nat) (s : ByteArray) (p d : Nat) (f : Bool) (e : Int) (va : Value) (vars sets : Pairs) (sv : Value) : Prop where
  wk : Wk w b s p d f e va sv
  vrow : PRow n₀ w va vars
  row : w.ownsRow (b + 1) 68 2 sv sets.length (flatP sets)
  le : n₀ ≤ b
  cnt : sets.length ≤ p
  dle : d ≤ p
  vals : ∀ q ∈ sets, q.2.length ≤ 100000
  vvals : ∀ q ∈ vars, q.2.length ≤ 100000

theorem below_some {w w' : World} {b : Nat} (h : w.grownBy w' (some b)) (hb : b ≤ w.heap.size) : Below b w w' := ⟨h.os, h.tape, h.output, h.size, fun i hi => h.block i (by omega) (by simp; omega)⟩
theorem Ws.next {w w' : World} {n₀ b : Nat} {s : ByteArray} {p d p' d' : Nat} {f f' : Bool} {e e' : Int} {va : Value} {vars sets : Pairs} {sv : Value} (h : Ws w n₀ b s p d f e va vars sets sv) (hg : w.grownBy w' (some b)) (hk : Wk w' b s p' d' f' e' va sv) (hp : p ≤ p') (hd : d' ≤ p') : Ws w' n₀ b s p' d' f' e' va vars sets sv :=
  ⟨hk, h.vrow.below (below_some hg (Nat.le_of_lt h.wk.blk.lt)) h.le, h.row.kept hg (.inr (fun e => by have := (ownsRow_lt h.row e).1; omega)), h.le, Nat.le_trans h.cnt hp, hd, h.vals, h.vvals⟩
theorem Ws.srow {w : World} {n₀ b : Nat} {s : ByteArray} {p d : Nat} {f : Bool} {e : Int} {va : Value} {vars sets : Pairs} {sv : Value} (h : Ws w n₀ b s p d f e va vars sets sv) : PRow w.heap.size w sv sets :=
  row_of_own68 h.row (by have := h.cnt; have := h.wk.le; have := h.wk.len; omega) (Nat.le_refl _)
theorem findV_le {N : Nat} {s : List UInt8} : ∀ {L : Pairs}, (∀ q ∈ L, q.2.length ≤ N) → (findV L s).length ≤ N
  | [], _ => Nat.zero_le _
  | p :: L, h => by
    show (if p.1 = s then p.2 else findV L s).length ≤ N
    split
    · exact h p (List.mem_cons_self ..)
    · exact findV_le (fun q hq => h q (List.mem_cons_of_mem _ hq))
theorem Ws.find {w : World} {n₀ b : Nat} {s : ByteArray} {p d : Nat} {f : Bool} {e : Int} {va : Value} {vars sets : Pairs} {sv : Value} (h : Ws w n₀ b s p d f e va vars sets sv) (nm : List UInt8) : (findV (sets.reverse ++ vars) nm).length ≤ 100000 :=
  findV_le (fun q hq => by
    rcases List.mem_append.1 hq with hq | hq
    · exact h.vals q (List.mem_reverse.1 hq)
    · exact h.vvals q hq)

/-- What working x out comes to, where it counts, and where it doesn't. -/
def Ev (vars : Pairs) (x : E) (live : Bool) (e : Int) (sets : Pairs) (n e' : Int) (sets' : Pairs) : Prop :=
  if live then (match evalR vars x sets with
    | .ok (m, t) => n = m ∧ e' = 0 ∧ sets' = t
    | .error c => e' = c ∧ c ≠ 0)
  else e' = e ∧ sets' = sets
theorem Ev.dead {vars : Pairs} {x : E} {e : Int} {sets : Pairs} {n e' : Int} {sets' : Pairs} (h : Ev vars x false e sets n e' sets') : e' = e ∧ sets' = sets := h
theorem Ev.of_dead (vars : Pairs) (x : E) (e : Int) (sets : Pairs) (n : Int) : Ev vars x false e sets n e sets := ⟨rfl, rfl⟩
theorem Ev.ok {vars : Pairs} {x : E} {e : Int} {sets t : Pairs} {n m e' : Int} {sets' : Pairs} (h : Ev vars x true e sets n e' sets') (hv : evalR vars x sets = .ok (m, t)) : n = m ∧ e' = 0 ∧ sets' = t := by
  unfold Ev at h
  rw [if_pos rfl, hv] at h
  exact h
theorem Ev.err {vars : Pairs} {x : E} {e : Int} {sets : Pairs} {n c e' : Int} {sets' : Pairs} (h : Ev vars x true e sets n e' sets') (hv : evalR vars x sets = .error c) : e' = c ∧ c ≠ 0 := by
  unfold Ev at h
  rw [if_pos rfl, hv] at h
  exact h
theorem Ev.of_ok {vars : Pairs} {x : E} {e : Int} {sets t : Pairs} {n : Int} (hv : evalR vars x sets = .ok (n, t)) : Ev vars x true e sets n 0 t := by
  unfold Ev
  rw [if_pos rfl, hv]
  exact ⟨rfl, rfl, rfl⟩
theorem Ev.of_err {vars : Pairs} {x : E} {e : Int} {sets t : Pairs} {n c : Int} (hv : evalR vars x sets = .error c) (hc : c ≠ 0) : Ev vars x true e sets n c t := by
  unfold Ev
  rw [if_pos rfl, hv]
  exact ⟨rfl, hc⟩
theorem live_err {d : Nat} {f : Bool} {e : Int} (h : e ≠ 0) : liveB d f e = false := by unfold liveB; rw [show (e == 0) = false by simpa using h]; simp
theorem live_dead (d : Nat) (f : Bool) (e : Int) : liveB (d + 1) f e = false := rfl
theorem live_same {d : Nat} {f : Bool} {e : Int} (h : liveB d f e = true) : d = 0 ∧ f = false ∧ e = 0 := by
  unfold liveB at h
  simp at h
  exact ⟨h.1.1, h.1.2, h.2⟩

theorem Ev.num (vars : Pairs) (n : Int) (d : Nat) (e : Int) (sets : Pairs) : Ev vars (.num n) (liveB d false e) e sets n e sets := by
  rcases Bool.eq_false_or_eq_true (liveB d false e) with h | h
  · rw [h]
    obtain ⟨_, _, rfl⟩ := live_same h
    exact Ev.of_ok rfl
  · rw [h]; exact Ev.of_dead _ _ _ _ _
theorem Ev.sign {vars : Pairs} {x : E} {live : Bool} {e : Int} {sets : Pairs} {n e' : Int} {sets' : Pairs} (h : Ev vars x live e sets n e' sets') (k : Nat) : Ev vars (.sign k x) live e sets (signI k n) e' sets' := by
  cases live
  · exact h
  · rcases hv : evalR vars x sets with c | ⟨m, t⟩
    · obtain ⟨rfl, hc⟩ := h.err hv
      exact Ev.of_err (by rw [evalR, hv]) hc
    · obtain ⟨rfl, rfl, rfl⟩ := h.ok hv
      exact Ev.of_ok (by rw [evalR, hv])

/-- What a method answers: a number; the work behind it. -/
def Out (w : World) (n₀ b : Nat) (s : ByteArray) (p d : Nat) (e : Int) (va : Value) (vars sets : Pairs) (r : Option (E × List UInt8)) (en : Ending) (w' : World) : Prop :=
  Below b w w' ∧ ∃ n, en = .returned (.int .i64 n) ∧ I64 n ∧ ∃ p' e' sets' sv', p ≤ p' ∧ match r with
    | none => Ws w' n₀ b s p' d true e' va vars sets' sv'
    | some (x, rest) => Ws w' n₀ b s p' d false e' va vars sets' sv' ∧ s.data.toList.drop p' = rest ∧ Ev vars x (liveB d false e) e sets n e' sets'

/-- The method k reads as D does, of what has up to N bytes. -/
def Meth (k : Nat) (D : List UInt8 → Option (E × List UInt8)) (N : Nat) : Prop := ∀ (w : World) (n₀ b : Nat) (s : ByteArray) (p d : Nat) (e : Int) (va : Value) (vars sets : Pairs) (sv : Value),
  Ws w n₀ b s p d false e va vars sets sv → s.size ≤ p + N → Calls Tryz.prog k #[.pointer (some ⟨b, 0, none⟩)] w fun en w' => Out w n₀ b s p d e va vars sets (D (s.data.toList.drop p)) en w'
def MethS (k N : Nat) : Prop := ∀ (w : World) (n₀ b : Nat) (s : ByteArray) (p d : Nat) (e : Int) (va : Value) (vars sets : Pairs) (sv : Value),
  Ws w n₀ b s p d false e va vars sets sv → s.size ≤ p + N → ∀ kv : Int, kv = (k : Int) → Calls Tryz.prog 93 #[.pointer (some ⟨b, 0, none⟩), .int .i64 kv] w fun en w' => Out w n₀ b s p d e va vars sets (DS k (s.data.toList.drop p)) en w'

theorem drop_span (p : Int → Bool) : ∀ l : List UInt8, l.drop (spanN p l) = l.dropWhile fun c => p (c.toNat : Int)
  | [] => rfl
  | c :: l => by
    rw [spanN_cons, List.dropWhile_cons]
    split
    · exact drop_span p l
    · rfl
theorem sk_span (l : List UInt8) : sk l = l.drop (spanN gapB l) := by
  rw [drop_span, sk_eq]
  congr 1
  funext c
  exact gap_contains c
theorem drop_skp (s : ByteArray) (p : Nat) : s.data.toList.drop (skp s p) = sk (s.data.toList.drop p) := by
  unfold skp
  rw [sk_span, List.drop_drop]
theorem sbb_drop (s : ByteArray) (p i : Nat) : sbb s (p + i) = byteA (s.data.toList.drop p) i := by
  unfold sbb byteA
  rw [List.getElem?_drop]
  simp
theorem extract_one (s : ByteArray) (p k : Nat) : s.extract p (p + k) = BA ((s.data.toList.drop p).take k) := by
  unfold BA
  apply ByteArray.ext
  rw [ByteArray.data_extract]
  apply Array.ext'
  simp [List.take_drop, Nat.add_sub_cancel_left]
theorem skp_skp (s : ByteArray) (p : Nat) : sk (s.data.toList.drop (skp s p)) = s.data.toList.drop (skp s p) := by rw [drop_skp, sk_sk]
theorem op_at (s : ByteArray) (p : Nat) : opR (sbb s (skp s p)) (sbb s (skp s p + 1)) (s.extract (skp s p) (skp s p + 1)) = opDR (sk (s.data.toList.drop p)) := by
  rw [← drop_skp, ← opR_eq, ← sbb_drop, ← sbb_drop, extract_one]
  rfl

end Go.Proofs.YtlbpeknncakfeaaGreatDoor

/- Operators of a rank, and sides of the next one: the document's 'sides'. -/
namespace Go.Proofs.YtlbpeknncakfeaaGreatDoor
open Go.RowKit Go.Maps
attribute [local irreducible] findOp findSign

theorem lookR_key {α : Type} {s : List UInt8} {v : α} : ∀ {L : List (ByteArray × α)}, lookR s L = some v → (BA s, v) ∈ L
  | [], h => by cases h
  | p :: L, h => by
    rw [lookR_cons] at h
    cases hl : lookR s L with
    | some x => rw [hl] at h; cases h; exact List.mem_cons_of_mem _ (lookR_key hl)
    | none =>
      rw [hl] at h
      simp only [] at h
      split at h
      · next hp =>
        cases h
        rw [← hp]
        exact List.mem_cons_self ..
      · cases h
theorem op_key {t : List UInt8} {o : Opr} (h : findOp t = some o) : (BA t, o) ∈ opsT := by unfold findOp at h; exact lookR_key h

/-- What an operator makes of two sides, or an error. -/
def OfEnd (w : World) (b : Nat) (s : ByteArray) (p d : Nat) (f : Bool) (va sv : Value) (r : Except Int Int) (e' : Ending) (w' : World) : Prop := match r with
  | .ok m => e' = .returned (.int .i64 m) ∧ w' = w
  | .error c => c = 13 ∧ e' = .returned (.int .i64 0) ∧ Wk w' b s p d f 13 va sv ∧ w.grownBy w' (some b)
theorem OfEnd.of_err {w : World} {b : Nat} {s : ByteArray} {p d : Nat} {f : Bool} {va sv : Value} {e' : Ending} {w' : World} (h : e' = .returned (.int .i64 0) ∧ Wk w' b s p d f 13 va sv ∧ w.grownBy w' (some b)) : OfEnd w b s p d f va sv (.error 13) e' w' := ⟨rfl, h⟩

theorem rof_any {t : List UInt8} {o : Opr} (ho : findOp t = some o) (h3 : 3 ≤ o.rank) (x y : Int) (b : Nat) (s : ByteArray) (p d : Nat) (f : Bool) (e : Int) (va sv : Value) (w : World) (h : Wk w b s p d f e va sv) (hl : liveB d f e = true) :
    Calls Tryz.prog 49 #[.pointer (some ⟨b, 0, none⟩), .string (BA t), .int .i64 x, .int .i64 y] w fun e' w' => OfEnd w b s p d f va sv (applyS o x y) e' w' := by
  have hm := op_key ho
  unfold opsT at hm
  simp only [List.mem_cons, List.not_mem_nil, or_false, Prod.mk.injEq] at hm
  rcases hm with ⟨ht, rfl⟩ | ⟨ht, rfl⟩ | ⟨ht, rfl⟩ | ⟨ht, rfl⟩ | ⟨ht, rfl⟩ | ⟨ht, rfl⟩ | ⟨ht, rfl⟩ | ⟨ht, rfl⟩ | ⟨ht, rfl⟩ | ⟨ht, rfl⟩ | ⟨ht, rfl⟩ | ⟨ht, rfl⟩ | ⟨ht, rfl⟩ | ⟨ht, rfl⟩ | ⟨ht, rfl⟩ | ⟨ht, rfl⟩ | ⟨ht, rfl⟩ | ⟨ht, rfl⟩
  · exact absurd h3 (by decide)
  · exact absurd h3 (by decide)
  · rw [ht]; exact rof_65 x y b s p d f e va sv w h hl
  · rw [ht]; exact rof_66 x y b s p d f e va sv w h hl
  · rw [ht]; exact rof_67 x y b s p d f e va sv w h hl
  · rw [ht]; exact rof_68 x y b s p d f e va sv w h hl
  · rw [ht]; exact rof_69 x y b s p d f e va sv w h hl
  · rw [ht]; exact rof_70 x y b s p d f e va sv w h hl
  · rw [ht]; exact rof_71 x y b s p d f e va sv w h hl
  · rw [ht]; exact rof_72 x y b s p d f e va sv w h hl
  · rw [ht]; exact rof_73 x y b s p d f e va sv w h hl
  · rw [ht]; exact rof_74 x y b s p d f e va sv w h hl
  · rw [ht]; exact rof_75 x y b s p d f e va sv w h hl
  · rw [ht]; exact rof_76 x y b s p d f e va sv w h hl
  · rw [ht]; exact rof_77 x y b s p d f e va sv w h hl
  · rw [ht]; exact rof_78 x y b s p d f e va sv w h hl
  · rw [ht]
    by_cases hy : y = 0
    · subst hy
      exact (rof_79_none x b s p d f e va sv w h hl).mono (fun _ _ h => OfEnd.of_err h)
    · have ha : applyS ⟨10, 79, none, true⟩ x y = .ok (doI 79 x y) := by unfold applyS; rw [if_neg (by simpa using hy)]
      rw [ha]
      exact rof_79 x y hy b s p d f e va sv w h hl
  · rw [ht]
    by_cases hy : y = 0
    · subst hy
      exact (rof_80_none x b s p d f e va sv w h hl).mono (fun _ _ h => OfEnd.of_err h)
    · have ha : applyS ⟨10, 80, none, true⟩ x y = .ok (doI 80 x y) := by unfold applyS; rw [if_neg (by simpa using hy)]
      rw [ha]
      exact rof_80 x y hy b s p d f e va sv w h hl

theorem live_le {d d' : Nat} {e : Int} (h : liveB d false e = false) (hd : d ≤ d') : liveB d' false e = false := by
  unfold liveB at *
  simp at *
  intro h1
  exact h (by omega)
theorem Ev.or {vars : Pairs} {x y : E} {d : Nat} {e : Int} {sets : Pairs} {a e1 : Int} {t1 : Pairs} {b e2 : Int} {t2 : Pairs} (hx : Ev vars x (liveB d false e) e sets a e1 t1)
    (hy : Ev vars y (liveB (if (a != 0) = true then d + 1 else d) false e1) e1 t1 b e2 t2) : Ev vars (.op ⟨1, 60, some 62, false⟩ x y) (liveB d false e) e sets (truthI ((a != 0) || (b != 0))) e2 t2 := by
  rcases Bool.eq_false_or_eq_true (liveB d false e) with hl | hl
  · rw [hl] at hx ⊢
    rcases hv : evalR vars x sets with c | ⟨m, t⟩
    · obtain ⟨rfl, hc⟩ := hx.err hv
      rw [live_err hc] at hy
      obtain ⟨rfl, rfl⟩ := hy.dead
      exact Ev.of_err (by rw [evalR, hv]) hc
    · obtain ⟨rfl, rfl, rfl⟩ := hx.ok hv
      obtain ⟨rfl, _, rfl⟩ := live_same hl
      by_cases ha : (a != 0) = true
      · rw [if_pos ha, live_dead] at hy
        obtain ⟨rfl, rfl⟩ := hy.dead
        refine Ev.of_ok ?_
        rw [evalR, hv]
        simp only [enoughB, ha, if_pos, applyS, Bool.false_and, doI, Bool.true_or]
        rfl
      · rw [if_neg ha, hl] at hy
        have ha' : (a != 0) = false := by simpa using ha
        rcases hw : evalR vars y t1 with c | ⟨m, t⟩
        · obtain ⟨rfl, hc⟩ := hy.err hw
          refine Ev.of_err ?_ hc
          rw [evalR, hv]
          simp only [enoughB, ha', hw]
          rfl
        · obtain ⟨rfl, rfl, rfl⟩ := hy.ok hw
          refine Ev.of_ok ?_
          rw [evalR, hv]
          simp only [enoughB, hw, applyS, Bool.false_and, doI, ha']
          rfl
  · rw [hl] at hx ⊢
    obtain ⟨rfl, rfl⟩ := hx.dead
    rw [live_le hl (by split <;> omega)] at hy
    obtain ⟨rfl, rfl⟩ := hy.dead
    exact Ev.of_dead _ _ _ _ _
theorem Ev.and {vars : Pairs} {x y : E} {d : Nat} {e : Int} {sets : Pairs} {a e1 : Int} {t1 : Pairs} {b e2 : Int} {t2 : Pairs} (hx : Ev vars x (liveB d false e) e sets a e1 t1)
    (hy : Ev vars y (liveB (if (a == 0) = true then d + 1 else d) false e1) e1 t1 b e2 t2) : Ev vars (.op ⟨2, 63, some 64, false⟩ x y) (liveB d false e) e sets (truthI ((a != 0) && (b != 0))) e2 t2 := by
  rcases Bool.eq_false_or_eq_true (liveB d false e) with hl | hl
  · rw [hl] at hx ⊢
    rcases hv : evalR vars x sets with c | ⟨m, t⟩
    · obtain ⟨rfl, hc⟩ := hx.err hv
      rw [live_err hc] at hy
      obtain ⟨rfl, rfl⟩ := hy.dead
      exact Ev.of_err (by rw [evalR, hv]) hc
    · obtain ⟨rfl, rfl, rfl⟩ := hx.ok hv
      obtain ⟨rfl, _, rfl⟩ := live_same hl
      by_cases ha : (a == 0) = true
      · rw [if_pos ha, live_dead] at hy
        obtain ⟨rfl, rfl⟩ := hy.dead
        have ha' : (a != 0) = false := by simpa using ha
        refine Ev.of_ok ?_
        rw [evalR, hv]
        simp only [enoughB, ha, if_pos, applyS, Bool.false_and, doI, ha']
        rfl
      · rw [if_neg ha, hl] at hy
        have ha0 : (a == 0) = false := by simpa using ha
        have ha' : (a != 0) = true := by simpa using ha
        rcases hw : evalR vars y t1 with c | ⟨m, t⟩
        · obtain ⟨rfl, hc⟩ := hy.err hw
          refine Ev.of_err ?_ hc
          rw [evalR, hv]
          simp only [enoughB, ha0, hw]
          rfl
        · obtain ⟨rfl, rfl, rfl⟩ := hy.ok hw
          refine Ev.of_ok ?_
          rw [evalR, hv]
          simp only [enoughB, ha0, hw, applyS, Bool.false_and, doI, ha']
          rfl
  · rw [hl] at hx ⊢
    obtain ⟨rfl, rfl⟩ := hx.dead
    rw [live_le hl (by split <;> omega)] at hy
    obtain ⟨rfl, rfl⟩ := hy.dead
    exact Ev.of_dead _ _ _ _ _

theorem no_enough {o : Opr} (ho : OprOk o) (h3 : 3 ≤ o.rank) (a : Int) : enoughB o a = false := by
  rcases ops_cases ho with rfl | rfl | rfl | rfl | rfl | rfl | rfl | rfl | rfl | rfl | rfl | rfl | rfl | rfl | rfl | rfl | rfl | rfl
  all_goals first | rfl | exact absurd h3 (by decide)
/-- Both sides are worked out, then the operator's own. -/
theorem Ev.bin {vars : Pairs} {x y : E} {o : Opr} {d : Nat} {e : Int} {sets : Pairs} {a e1 : Int} {t1 : Pairs} {b e2 : Int} {t2 : Pairs} (ho : OprOk o) (h3 : 3 ≤ o.rank) (hx : Ev vars x (liveB d false e) e sets a e1 t1)
    (hy : Ev vars y (liveB d false e1) e1 t1 b e2 t2) : (liveB d false e2 = true → match applyS o a b with
      | .ok m => Ev vars (.op o x y) (liveB d false e) e sets m e2 t2
      | .error c => c ≠ 0 ∧ ∀ n, Ev vars (.op o x y) (liveB d false e) e sets n c t2) ∧ (liveB d false e2 = false → ∀ n, Ev vars (.op o x y) (liveB d false e) e sets n e2 t2) := by
  have hen := no_enough ho h3 a
  rcases Bool.eq_false_or_eq_true (liveB d false e) with hl | hl
  · rw [hl] at hx ⊢
    rcases hv : evalR vars x sets with c | ⟨m, t⟩
    · obtain ⟨rfl, hc⟩ := hx.err hv
      rw [live_err hc] at hy
      obtain ⟨rfl, rfl⟩ := hy.dead
      refine ⟨fun h => ?_, fun _ n => Ev.of_err (by rw [evalR, hv]) hc⟩
      rw [live_err hc] at h
      cases h
    · obtain ⟨rfl, rfl, rfl⟩ := hx.ok hv
      obtain ⟨rfl, _, rfl⟩ := live_same hl
      rw [hl] at hy
      rcases hw : evalR vars y t1 with c | ⟨m, t⟩
      · obtain ⟨rfl, hc⟩ := hy.err hw
        refine ⟨fun h => ?_, fun _ n => Ev.of_err ?_ hc⟩
        · rw [live_err hc] at h
          cases h
        · rw [evalR, hv]
          simp only [hen, hw]
          rfl
      · obtain ⟨rfl, rfl, rfl⟩ := hy.ok hw
        refine ⟨fun _ => ?_, fun h => by rw [hl] at h; cases h⟩
        rcases hap : applyS o a b with c | m
        · have hc : c ≠ 0 := by
            unfold applyS at hap
            split at hap
            · cases hap; decide
            · cases hap
          refine ⟨hc, fun n => Ev.of_err ?_ hc⟩
          rw [evalR, hv]
          simp only [hen, hw, hap]
          rfl
        · refine Ev.of_ok ?_
          rw [evalR, hv]
          simp only [hen, hw, hap]
          rfl
  · rw [hl] at hx ⊢
    obtain ⟨rfl, rfl⟩ := hx.dead
    rw [hl] at hy
    obtain ⟨rfl, rfl⟩ := hy.dead
    refine ⟨fun h => ?_, fun _ n => Ev.of_dead _ _ _ _ _⟩
    rw [hl] at h
    cases h

end Go.Proofs.YtlbpeknncakfeaaGreatDoor

/- The walk of the document's 'sides'. -/
namespace Go.Proofs.YtlbpeknncakfeaaGreatDoor
open Go.RowKit Go.Maps
attribute [local irreducible] findOp findSign

theorem sides_top {N : Nat} (hR : Meth 118 DR N) : MethS 11 N := by
  intro w n₀ b s p d e va vars sets sv h hN kv hkv
  subst hkv
  have HR := hide (hR w n₀ b s p d e va vars sets sv h hN)
  clear h
  go_enter Tryz.func93, Tryz.ntmps93
  go_wp2_with fail
  refine (unhide HR).mono ?_
  rintro en w1 ⟨b1, n, rfl, hn, hrest⟩
  have HB := hide (And.intro b1 (And.intro hn hrest))
  clear b1 hn hrest
  go_wp2
  go_ret
  refine ⟨(unhide HB).1, n, rfl, (unhide HB).2.1, ?_⟩
  rw [show DS 11 (s.data.toList.drop p) = DR (s.data.toList.drop p) by rw [DS_eq, if_pos (by decide)]]
  exact (unhide HB).2.2

/-- What is known behind each side. -/
structure SideP (w : World) (n₀ b : Nat) (s : ByteArray) (p d : Nat) (e : Int) (va : Value) (vars sets : Pairs) (k : Nat) (a : Int) (p1 : Nat) (f : Bool) (e1 : Int) (t1 : Pairs) (sv1 : Value) (w1 : World) : Prop where
  bel : Below b w w1
  num : I64 a
  le : p ≤ p1
  ws : Ws w1 n₀ b s p1 d f e1 va vars t1 sv1
  is : if f = true then DS k (s.data.toList.drop p) = none else ∃ x, DS k (s.data.toList.drop p) = DL k x (s.data.toList.drop p1) ∧ Ev vars x (liveB d false e) e sets a e1 t1
/-- What is known ahead of each round. -/
def SideI (w : World) (n₀ b : Nat) (s : ByteArray) (p d : Nat) (e : Int) (va : Value) (vars sets : Pairs) (k : Nat) (a : Int) (t : ByteArray) (r : Int) (wr : World) : Prop :=
  ∃ p1 f e1 t1 sv1, SideP w n₀ b s p d e va vars sets k a p1 f e1 t1 sv1 wr ∧ sk (s.data.toList.drop p1) = s.data.toList.drop p1 ∧ (t, r) = opDR (s.data.toList.drop p1)
theorem SideP.op {w : World} {n₀ b : Nat} {s : ByteArray} {p d : Nat} {e : Int} {va : Value} {vars sets : Pairs} {k : Nat} {a : Int} {p1 : Nat} {f : Bool} {e1 : Int} {t1 : Pairs} {sv1 : Value} {w1 w2 : World} (h : SideP w n₀ b s p d e va vars sets k a p1 f e1 t1 sv1 w1)
    (hk : Wk w2 b s (skp s p1) d f e1 va sv1) (hg : w1.grownBy w2 (some b)) :
    SideI w n₀ b s p d e va vars sets k a (opR (sbb s (skp s p1)) (sbb s (skp s p1 + 1)) (s.extract (skp s p1) (skp s p1 + 1))).1 (opR (sbb s (skp s p1)) (sbb s (skp s p1 + 1)) (s.extract (skp s p1) (skp s p1 + 1))).2 w2 := by
  have hle := (skp_le h.ws.wk.le).2
  have hd := h.ws.dle
  refine ⟨skp s p1, f, e1, t1, sv1, ⟨h.bel.trans (below_some hg (Nat.le_of_lt h.ws.wk.blk.lt)), h.num, Nat.le_trans h.le hle, h.ws.next hg hk hle (by omega), ?_⟩, skp_skp s p1, ?_⟩
  · have := h.is
    cases f
    · obtain ⟨x, h1, h2⟩ := this
      refine ⟨x, ?_, h2⟩
      rw [h1]
      exact DL_sk k x (by rw [skp_skp, drop_skp])
    · exact this
  · rw [drop_skp, ← op_at]

/-- The sign stands here: the next round. -/
theorem opDR_some {l : List UInt8} {t : ByteArray} {r : Int} (h : (t, r) = opDR l) {o : Opr} {n : Nat} (ho : opD l = some (o, n)) : t = BA (l.take n) ∧ r = (o.rank : Int) := by
  unfold opDR at h
  rw [ho] at h
  cases h
  exact ⟨rfl, rfl⟩
/-- No sign of this rank: the end. -/
theorem side_end {k : Nat} {x : E} {l : List UInt8} {t : ByteArray} {r : Int} (hk : 1 ≤ k) (hs : sk l = l) (h : (t, r) = opDR l) : (r = (k : Int) ∧ ∃ o n, opD l = some (o, n) ∧ o.rank = k ∧ t = BA (l.take n)) ∨ ((r == (k : Int)) = false ∧ DL k x l = some (x, l)) := by
  rcases ho : opD l with _ | ⟨o, n⟩
  · right
    unfold opDR at h
    rw [ho] at h
    cases h
    refine ⟨by rw [beq_eq_false_iff_ne]; omega, ?_⟩
    rw [DL_eq, hs, ho]
  · obtain ⟨rfl, rfl⟩ := opDR_some h ho
    by_cases hr : o.rank = k
    · exact .inl ⟨by rw [hr], o, n, rfl, hr, rfl⟩
    · right
      refine ⟨by rw [beq_eq_false_iff_ne]; omega, ?_⟩
      rw [DL_eq, hs, ho]
      simp only []
      rw [if_neg hr]
/-- What the side behind the sign comes to. -/
theorem side_on {k : Nat} {x : E} {l : List UInt8} {o : Opr} {n : Nat} (hs : sk l = l) (ho : opD l = some (o, n)) (hr : o.rank = k) : DL k x l = match DS (k + 1) (l.drop n) with
    | none => none
    | some (y, r) => DL k (.op o x y) r := by
  rw [DL_eq, hs, ho]
  simp only []
  rw [if_pos hr]
  rfl
theorem rank1 {o : Opr} (ho : OprOk o) (h : o.rank = 1) : o = ⟨1, 60, some 62, false⟩ := by
  rcases ops_cases ho with rfl | rfl | rfl | rfl | rfl | rfl | rfl | rfl | rfl | rfl | rfl | rfl | rfl | rfl | rfl | rfl | rfl | rfl
  all_goals first | rfl | exact absurd h (by decide)
theorem rank2 {o : Opr} (ho : OprOk o) (h : o.rank = 2) : o = ⟨2, 63, some 64, false⟩ := by
  rcases ops_cases ho with rfl | rfl | rfl | rfl | rfl | rfl | rfl | rfl | rfl | rfl | rfl | rfl | rfl | rfl | rfl | rfl | rfl | rfl
  all_goals first | rfl | exact absurd h (by decide)

/-- The operator's own, behind both sides. -/
theorem side_of {w w3 : World} {n₀ b : Nat} {s : ByteArray} {p d p1 p2 : Nat} {e e1 e2 : Int} {va : Value} {vars sets t1 t2 : Pairs} {k : Nat} {a bn : Int} {f2 : Bool} {sv2 : Value} {x : E} {o : Opr} {t : List UInt8} (hB : Below b w w3) (hle : p ≤ p2) (hna : I64 a) (hws : Ws w3 n₀ b s p2 d f2 e2 va vars t2 sv2) (ho : findOp t = some o) (h3 : 3 ≤ o.rank)
    (hx : Ev vars x (liveB d false e) e sets a e1 t1) (hdl : DS k (s.data.toList.drop p) = DL k x (s.data.toList.drop p1)) (hy : if f2 = true then DL k x (s.data.toList.drop p1) = none else ∃ y, DL k x (s.data.toList.drop p1) = DL k (.op o x y) (s.data.toList.drop p2) ∧ Ev vars y (liveB d false e1) e1 t1 bn e2 t2) :
    Calls Tryz.prog 49 #[.pointer (some ⟨b, 0, none⟩), .string (BA t), .int .i64 a, .int .i64 bn] w3 fun e' w4 => ∃ a3 e3, e' = .returned (.int .i64 a3) ∧ SideP w n₀ b s p d e va vars sets k a3 p2 f2 e3 t2 sv2 w4 := by
  cases f2
  · obtain ⟨y, hy1, hy2⟩ := hy
    have hb := Ev.bin (rank_le ho).1 h3 hx hy2
    rcases Bool.eq_false_or_eq_true (liveB d false e2) with hl | hl
    · refine (rof_any ho h3 a bn b s p2 d false e2 va sv2 w3 hws.wk hl).mono ?_
      intro e' w4 h
      have hc := hb.1 hl
      rcases hap : applyS o a bn with c | m
      · rw [hap] at h hc
        obtain ⟨rfl, rfl, hk, hg⟩ := h
        exact ⟨0, 13, rfl, hB.trans (below_some hg (Nat.le_of_lt hws.wk.blk.lt)), ⟨by decide, by decide⟩, hle, hws.next hg hk (Nat.le_refl _) hws.dle, _, hdl.trans hy1, hc.2 0⟩
      · rw [hap] at h hc
        obtain ⟨rfl, rfl⟩ := h
        refine ⟨m, e2, rfl, hB, ?_, hle, hws, _, hdl.trans hy1, hc⟩
        unfold applyS at hap
        split at hap
        · cases hap
        · cases hap; exact i64_do hna _ _
    · refine (rof_dead (BA t) a bn b s p2 d false e2 va sv2 w3 hws.wk hl).mono ?_
      rintro e' w4 ⟨rfl, rfl⟩
      exact ⟨0, e2, rfl, hB, ⟨by decide, by decide⟩, hle, hws, _, hdl.trans hy1, hb.2 hl 0⟩
  · refine (rof_dead (BA t) a bn b s p2 d true e2 va sv2 w3 hws.wk (by unfold liveB; simp)).mono ?_
    rintro e' w4 ⟨rfl, rfl⟩
    exact ⟨0, e2, rfl, hB, ⟨by decide, by decide⟩, hle, hws, hdl.trans hy⟩

end Go.Proofs.YtlbpeknncakfeaaGreatDoor

/- A round of the document's 'sides', and all of them. -/
namespace Go.Proofs.YtlbpeknncakfeaaGreatDoor
open Go.RowKit Go.Maps
attribute [local irreducible] findOp findSign

set_option maxRecDepth 20000 in
set_option maxHeartbeats 32000000 in
theorem sides_step {k N : Nat} (h1 : 1 ≤ k) (h10 : k ≤ 10) (hS : MethS (k + 1) N) : MethS k N := by
  intro w n₀ b s p d e va vars sets sv h hN kv hkv
  subst hkv
  obtain ⟨k1, hk1⟩ : ∃ x, x = k + 1 := ⟨_, rfl⟩
  have hw1 : IntKind.i64.wrap ((k : Int) + 1) = (k1 : Int) := by rw [IntKind.wrap_i64]; omega
  have hgt : ¬ (10 : Int) < (k : Int) := by omega
  rw [← hk1] at hS
  have hlen := h.wk.len
  have HS := hide hS
  have HK1 := hide hk1
  have HW := hide h
  have HN := hide hN
  clear hS hk1 h hN
  go_enter Tryz.func93, Tryz.ntmps93
  go_wp2_with fail
  refine (unhide HS w n₀ b s p d e va vars sets sv (unhide HW) (unhide HN) _ rfl).mono ?_
  rintro en w1 ⟨b1, a0, rfl, ha0, p1, e1, t1, sv1, hp1, hr⟩
  obtain ⟨f1, HP⟩ : ∃ f1, Hid (SideP w n₀ b s p d e va vars sets k a0 p1 f1 e1 t1 sv1 w1) := by
    have hds : DS k (s.data.toList.drop p) = match DS k1 (s.data.toList.drop p) with
      | none => none
      | some (x, r) => DL k x r := by rw [DS_eq, if_neg (by omega), unhide HK1]; rfl
    rcases hq : DS k1 (s.data.toList.drop p) with _ | ⟨x, r⟩
    · rw [hq] at hr hds
      exact ⟨true, hide ⟨b1, ha0, hp1, hr, hds⟩⟩
    · rw [hq] at hr hds
      obtain ⟨hws, hrest, hev⟩ := hr
      exact ⟨false, hide ⟨b1, ha0, hp1, hws, x, by rw [hds, hrest], hev⟩⟩
  clear b1 ha0 hp1 hr
  go_wp2_with fail
  refine (rop_any b s p1 d f1 e1 va sv1 w1 (unhide HP).ws.wk).mono ?_
  rintro en w2 ⟨rfl, hk2, g2⟩
  have HI := hide ((unhide HP).op hk2 g2)
  clear hk2 g2
  generalize opR (sbb s (skp s p1)) (sbb s (skp s p1 + 1)) (s.extract (skp s p1) (skp s p1 + 1)) = q at HI ⊢
  obtain ⟨tt, rr⟩ := q
  clear HP
  go_wp2_with fail
  go_loopw [5, 6, 7] (fun x y z wr => ∃ (a : Int) (t : ByteArray) (r : Int), x = .int .i64 a ∧ y = .string t ∧ z = .int .i64 r ∧ Hid (SideI w n₀ b s p d e va vars sets k a t r wr)) (fun _ _ _ wr => s.size - atOf b wr)
  case atStart => exact ⟨_, _, _, rfl, rfl, rfl, HI⟩
  case round =>
    clear HI
    obtain ⟨a, t, r, rfl, rfl, rfl, HI⟩ := hrel
    obtain ⟨p1, f, e1, t1, sv1, hp, hsk, hop⟩ := unhide HI
    clear HI
    have c1 := hp.ws.wk.c1
    have c2 := hp.ws.wk.c2
    have c3 := hp.ws.wk.c3
    have z1 := hp.ws.wk.blk.frozen 1
    have HP := hide hp
    have hi := hp.is
    clear hp
    cases f
    · obtain ⟨x, hdl, hev⟩ := hi
      rcases side_end (x := x) h1 hsk hop with ⟨hr, o, n, ho, hrk, ht⟩ | ⟨hr, hdl2⟩
      · have hol := opD_le ho
        have hfo := (opAt_le hol.2.2.2).2.2
        rw [List.length_drop] at hol
        have hsz : s.data.toList.length = s.size := by simp
        have hts : (t.size : Int) = (n : Int) := by
          rw [ht, BA_size, List.length_take, List.length_drop]
          omega
        obtain ⟨q, hq⟩ : ∃ q, q = p1 + n := ⟨_, rfl⟩
        have hwq : IntKind.i64.wrap ((p1 : Int) + (n : Int)) = (q : Int) := by rw [IntKind.wrap_i64]; omega
        have hql : q ≤ s.size ∧ p1 < q := by omega
        have hpq : p1 ≤ s.size := (unhide HP).ws.wk.le
        have hdp := (unhide HP).ws.dle
        have hon := side_on (x := x) hsk ho hrk
        rw [List.drop_drop, ← hq] at hon
        subst hr
        have HQ := hide hq
        have HON := hide hon
        have HEV := hide hev
        have HDL := hide hdl
        have HT := hide ht
        have HFO := hide hfo
        have hok := (rank_le hfo).1
        have HOK := hide hok
        have HRK := hide hrk
        have hN2 : s.size ≤ q + N := by have := unhide HN; have := (unhide HP).le; omega
        clear hq hon hev hdl ht hfo hok hop hol hsk hsz ho
        by_cases k_1 : k = 1
        · have k3 : ((k : Int) == 1) = true := by rw [beq_iff_eq]; omega
          have k4 : ((k : Int) == 2) = false := by rw [beq_eq_false_iff_ne]; omega
          have HK := hide k_1
          clear k_1
          by_cases ha : a = 0
          · subst ha
            have HW2 : Hid (Ws (wr.setCell ⟨b, 1, none⟩ (.int .i64 (q : Int))) n₀ b s q d false e1 va vars t1 sv1) := hide ((unhide HP).ws.next (grown_setCell wr ⟨b, 1, none⟩ _) ((unhide HP).ws.wk.to q hql.1) (by omega) (by omega))
            go_wp2_with fail
            refine (unhide HS _ n₀ b s q d e1 va vars t1 sv1 (unhide HW2) hN2 _ rfl).mono ?_
            rintro en w3 ⟨b3, bn, rfl, hbn, p2, e2, t2, sv2, hp2, hr3⟩
            obtain ⟨f2, HW3, HY⟩ : ∃ f2, Hid (Ws w3 n₀ b s p2 d f2 e2 va vars t2 sv2) ∧ Hid (if f2 = true then DL k x (s.data.toList.drop p1) = none else ∃ y, DL k x (s.data.toList.drop p1) = DL k (.op o x y) (s.data.toList.drop p2) ∧ Ev vars y (liveB d false e1) e1 t1 bn e2 t2) := by
              have hon := unhide HON
              rw [← unhide HK1] at hon
              rcases hq : DS k1 (s.data.toList.drop q) with _ | ⟨y, rest⟩
              · rw [hq] at hr3 hon
                exact ⟨true, hide hr3, hide hon⟩
              · rw [hq] at hr3 hon
                obtain ⟨hws, hrest, hev3⟩ := hr3
                exact ⟨false, hide hws, hide ⟨y, by rw [hon, hrest], hev3⟩⟩
            have B3 := hide b3
            have HBN := hide hbn
            clear b3 hbn hr3 c1 c2 c3 z1
            go_wp2_with fail
            refine (rtruth_any _ _).mono ?_
            rintro en w4 ⟨rfl, hw4⟩
            have hw5 := hw4.symm
            subst hw5
            clear hw4
            have HP3 : Hid (SideP w n₀ b s p d e va vars sets k (truthI (((0 : Int) != 0) || (bn != 0))) p2 f2 e2 t2 sv2 w3) := hide ⟨(unhide HP).bel.trans ((below_some (grown_setCell wr ⟨b, 1, none⟩ (.int .i64 (q : Int))) (Nat.le_of_lt (unhide HP).ws.wk.blk.lt)).trans (unhide B3)), i64_truth _, by have := (unhide HP).le; omega, unhide HW3, by
              have hy := unhide HY
              cases f2
              · obtain ⟨y, hy1, hy2⟩ := hy
                refine ⟨_, (unhide HDL).trans hy1, ?_⟩
                rw [rank1 (unhide HOK) ((unhide HRK).trans (unhide HK))]
                refine Ev.or (unhide HEV) ?_
                rw [if_neg (by decide)]
                exact hy2
              · exact (unhide HDL).trans hy⟩
            go_wp2_with fail
            refine (rop_any b s p2 d f2 e2 va sv2 _ (unhide HP3).ws.wk).mono ?_
            rintro en w5 ⟨rfl, hk5, g5⟩
            have HI5 := hide ((unhide HP3).op hk5 g5)
            have hat5 := hk5.at
            have hsk5 := skp_le (unhide HP3).ws.wk.le
            have HAT := hide (show s.size - atOf b w5 < s.size - atOf b wr by rw [hat5, (unhide HP).ws.wk.at]; omega)
            clear hk5 g5 hat5 hsk5
            generalize opR (sbb s (skp s p2)) (sbb s (skp s p2 + 1)) (s.extract (skp s p2) (skp s p2 + 1)) = q5 at HI5 ⊢
            obtain ⟨tt5, rr5⟩ := q5
            go_wp2
            go_roundw
            case rel => exact ⟨_, _, _, rfl, rfl, rfl, HI5⟩
            case measure => exact unhide HAT
          · have hab : (a == 0) = false := by simpa using ha
            obtain ⟨d1, hd1⟩ : ∃ x, x = d + 1 := ⟨_, rfl⟩
            have hwd : IntKind.i64.wrap ((d : Int) + 1) = (d1 : Int) := by rw [IntKind.wrap_i64]; omega
            have hwb : IntKind.i64.wrap ((d1 : Int) - 1) = (d : Int) := by rw [IntKind.wrap_i64]; omega
            have z2 := ((unhide HP).ws.wk.to q hql.1).blk.frozen 2
            have c2' := ((unhide HP).ws.wk.to q hql.1).c2
            have HW2 : Hid (Ws ((wr.setCell ⟨b, 1, none⟩ (.int .i64 (q : Int))).setCell ⟨b, 2, none⟩ (.int .i64 (d1 : Int))) n₀ b s q d1 false e1 va vars t1 sv1) := hide ((unhide HP).ws.next ((grown_setCell wr ⟨b, 1, none⟩ _).trans (grown_setCell _ ⟨b, 2, none⟩ _)) (((unhide HP).ws.wk.to q hql.1).dead d1) (by omega) (by omega))
            have HD1 := hide hd1
            clear hd1
            go_wp2_with fail
            refine (unhide HS _ n₀ b s q d1 e1 va vars t1 sv1 (unhide HW2) hN2 _ rfl).mono ?_
            rintro en w3 ⟨b3, bn, rfl, hbn, p2, e2, t2, sv2, hp2, hr3⟩
            obtain ⟨f2, HW3, HY⟩ : ∃ f2, Hid (Ws w3 n₀ b s p2 d1 f2 e2 va vars t2 sv2) ∧ Hid (if f2 = true then DL k x (s.data.toList.drop p1) = none else ∃ y, DL k x (s.data.toList.drop p1) = DL k (.op o x y) (s.data.toList.drop p2) ∧ Ev vars y (liveB d1 false e1) e1 t1 bn e2 t2) := by
              have hon := unhide HON
              rw [← unhide HK1] at hon
              rcases hq : DS k1 (s.data.toList.drop q) with _ | ⟨y, rest⟩
              · rw [hq] at hr3 hon
                exact ⟨true, hide hr3, hide hon⟩
              · rw [hq] at hr3 hon
                obtain ⟨hws, hrest, hev3⟩ := hr3
                exact ⟨false, hide hws, hide ⟨y, by rw [hon, hrest], hev3⟩⟩
            have B3 := hide b3
            have HBN := hide hbn
            have y2 := (unhide HW3).wk.c2
            have yz2 := (unhide HW3).wk.blk.frozen 2
            clear b3 hbn hr3 c1 c2 c3 z1 z2 c2'
            go_wp2_with fail
            refine (rtruth_any _ _).mono ?_
            rintro en w4 ⟨rfl, hw4⟩
            have hw5 := hw4.symm
            subst hw5
            clear hw4
            have HP3 : Hid (SideP w n₀ b s p d e va vars sets k (truthI true) p2 f2 e2 t2 sv2 (w3.setCell ⟨b, 2, none⟩ (.int .i64 (d : Int)))) := hide ⟨(unhide HP).bel.trans (((below_some (((grown_setCell wr ⟨b, 1, none⟩ (.int .i64 (q : Int))).trans (grown_setCell _ ⟨b, 2, none⟩ (.int .i64 (d1 : Int))))) (Nat.le_of_lt (unhide HP).ws.wk.blk.lt)).trans (unhide B3)).trans (below_some (grown_setCell w3 ⟨b, 2, none⟩ (.int .i64 (d : Int))) (Nat.le_of_lt (unhide HW3).wk.blk.lt))), i64_truth _, by have := (unhide HP).le; omega, (unhide HW3).next (grown_setCell w3 ⟨b, 2, none⟩ _) ((unhide HW3).wk.dead d) (Nat.le_refl _) (by omega), by
              have hy := unhide HY
              cases f2
              · obtain ⟨y, hy1, hy2⟩ := hy
                refine ⟨_, (unhide HDL).trans hy1, ?_⟩
                rw [rank1 (unhide HOK) ((unhide HRK).trans (unhide HK))]
                rw [show true = ((a != 0) || (bn != 0)) by simp [ha]]
                refine Ev.or (unhide HEV) ?_
                rw [if_pos (by simpa using ha), ← unhide HD1]
                exact hy2
              · exact (unhide HDL).trans hy⟩
            go_wp2_with fail
            refine (rop_any b s p2 d f2 e2 va sv2 _ (unhide HP3).ws.wk).mono ?_
            rintro en w5 ⟨rfl, hk5, g5⟩
            have HI5 := hide ((unhide HP3).op hk5 g5)
            have hat5 := hk5.at
            have hsk5 := skp_le (unhide HP3).ws.wk.le
            have HAT := hide (show s.size - atOf b w5 < s.size - atOf b wr by rw [hat5, (unhide HP).ws.wk.at]; omega)
            clear hk5 g5 hat5 hsk5
            generalize opR (sbb s (skp s p2)) (sbb s (skp s p2 + 1)) (s.extract (skp s p2) (skp s p2 + 1)) = q5 at HI5 ⊢
            obtain ⟨tt5, rr5⟩ := q5
            go_wp2
            go_roundw
            case rel => exact ⟨_, _, _, rfl, rfl, rfl, HI5⟩
            case measure => exact unhide HAT
        by_cases k_2 : k = 2
        · have k3 : ((k : Int) == 1) = false := by rw [beq_eq_false_iff_ne]; omega
          have k4 : ((k : Int) == 2) = true := by rw [beq_iff_eq]; omega
          have HK := hide k_2
          clear k_1 k_2
          by_cases ha : a = 0
          · subst ha
            obtain ⟨d1, hd1⟩ : ∃ x, x = d + 1 := ⟨_, rfl⟩
            have hwd : IntKind.i64.wrap ((d : Int) + 1) = (d1 : Int) := by rw [IntKind.wrap_i64]; omega
            have hwb : IntKind.i64.wrap ((d1 : Int) - 1) = (d : Int) := by rw [IntKind.wrap_i64]; omega
            have z2 := ((unhide HP).ws.wk.to q hql.1).blk.frozen 2
            have c2' := ((unhide HP).ws.wk.to q hql.1).c2
            have HW2 : Hid (Ws ((wr.setCell ⟨b, 1, none⟩ (.int .i64 (q : Int))).setCell ⟨b, 2, none⟩ (.int .i64 (d1 : Int))) n₀ b s q d1 false e1 va vars t1 sv1) := hide ((unhide HP).ws.next ((grown_setCell wr ⟨b, 1, none⟩ _).trans (grown_setCell _ ⟨b, 2, none⟩ _)) (((unhide HP).ws.wk.to q hql.1).dead d1) (by omega) (by omega))
            have HD1 := hide hd1
            clear hd1
            go_wp2_with fail
            refine (unhide HS _ n₀ b s q d1 e1 va vars t1 sv1 (unhide HW2) hN2 _ rfl).mono ?_
            rintro en w3 ⟨b3, bn, rfl, hbn, p2, e2, t2, sv2, hp2, hr3⟩
            obtain ⟨f2, HW3, HY⟩ : ∃ f2, Hid (Ws w3 n₀ b s p2 d1 f2 e2 va vars t2 sv2) ∧ Hid (if f2 = true then DL k x (s.data.toList.drop p1) = none else ∃ y, DL k x (s.data.toList.drop p1) = DL k (.op o x y) (s.data.toList.drop p2) ∧ Ev vars y (liveB d1 false e1) e1 t1 bn e2 t2) := by
              have hon := unhide HON
              rw [← unhide HK1] at hon
              rcases hq : DS k1 (s.data.toList.drop q) with _ | ⟨y, rest⟩
              · rw [hq] at hr3 hon
                exact ⟨true, hide hr3, hide hon⟩
              · rw [hq] at hr3 hon
                obtain ⟨hws, hrest, hev3⟩ := hr3
                exact ⟨false, hide hws, hide ⟨y, by rw [hon, hrest], hev3⟩⟩
            have B3 := hide b3
            have HBN := hide hbn
            have y2 := (unhide HW3).wk.c2
            have yz2 := (unhide HW3).wk.blk.frozen 2
            clear b3 hbn hr3 c1 c2 c3 z1 z2 c2'
            go_wp2_with fail
            refine (rtruth_any _ _).mono ?_
            rintro en w4 ⟨rfl, hw4⟩
            have hw5 := hw4.symm
            subst hw5
            clear hw4
            have HP3 : Hid (SideP w n₀ b s p d e va vars sets k (truthI (((0 : Int) != 0) && (bn != 0))) p2 f2 e2 t2 sv2 (w3.setCell ⟨b, 2, none⟩ (.int .i64 (d : Int)))) := hide ⟨(unhide HP).bel.trans (((below_some (((grown_setCell wr ⟨b, 1, none⟩ (.int .i64 (q : Int))).trans (grown_setCell _ ⟨b, 2, none⟩ (.int .i64 (d1 : Int))))) (Nat.le_of_lt (unhide HP).ws.wk.blk.lt)).trans (unhide B3)).trans (below_some (grown_setCell w3 ⟨b, 2, none⟩ (.int .i64 (d : Int))) (Nat.le_of_lt (unhide HW3).wk.blk.lt))), i64_truth _, by have := (unhide HP).le; omega, (unhide HW3).next (grown_setCell w3 ⟨b, 2, none⟩ _) ((unhide HW3).wk.dead d) (Nat.le_refl _) (by omega), by
              have hy := unhide HY
              cases f2
              · obtain ⟨y, hy1, hy2⟩ := hy
                refine ⟨_, (unhide HDL).trans hy1, ?_⟩
                rw [rank2 (unhide HOK) ((unhide HRK).trans (unhide HK))]
                refine Ev.and (unhide HEV) ?_
                rw [if_pos (by decide), ← unhide HD1]
                exact hy2
              · exact (unhide HDL).trans hy⟩
            go_wp2_with fail
            refine (rop_any b s p2 d f2 e2 va sv2 _ (unhide HP3).ws.wk).mono ?_
            rintro en w5 ⟨rfl, hk5, g5⟩
            have HI5 := hide ((unhide HP3).op hk5 g5)
            have hat5 := hk5.at
            have hsk5 := skp_le (unhide HP3).ws.wk.le
            have HAT := hide (show s.size - atOf b w5 < s.size - atOf b wr by rw [hat5, (unhide HP).ws.wk.at]; omega)
            clear hk5 g5 hat5 hsk5
            generalize opR (sbb s (skp s p2)) (sbb s (skp s p2 + 1)) (s.extract (skp s p2) (skp s p2 + 1)) = q5 at HI5 ⊢
            obtain ⟨tt5, rr5⟩ := q5
            go_wp2
            go_roundw
            case rel => exact ⟨_, _, _, rfl, rfl, rfl, HI5⟩
            case measure => exact unhide HAT
          · have hab : (a == 0) = false := by simpa using ha
            have HW2 : Hid (Ws (wr.setCell ⟨b, 1, none⟩ (.int .i64 (q : Int))) n₀ b s q d false e1 va vars t1 sv1) := hide ((unhide HP).ws.next (grown_setCell wr ⟨b, 1, none⟩ _) ((unhide HP).ws.wk.to q hql.1) (by omega) (by omega))
            go_wp2_with fail
            refine (unhide HS _ n₀ b s q d e1 va vars t1 sv1 (unhide HW2) hN2 _ rfl).mono ?_
            rintro en w3 ⟨b3, bn, rfl, hbn, p2, e2, t2, sv2, hp2, hr3⟩
            obtain ⟨f2, HW3, HY⟩ : ∃ f2, Hid (Ws w3 n₀ b s p2 d f2 e2 va vars t2 sv2) ∧ Hid (if f2 = true then DL k x (s.data.toList.drop p1) = none else ∃ y, DL k x (s.data.toList.drop p1) = DL k (.op o x y) (s.data.toList.drop p2) ∧ Ev vars y (liveB d false e1) e1 t1 bn e2 t2) := by
              have hon := unhide HON
              rw [← unhide HK1] at hon
              rcases hq : DS k1 (s.data.toList.drop q) with _ | ⟨y, rest⟩
              · rw [hq] at hr3 hon
                exact ⟨true, hide hr3, hide hon⟩
              · rw [hq] at hr3 hon
                obtain ⟨hws, hrest, hev3⟩ := hr3
                exact ⟨false, hide hws, hide ⟨y, by rw [hon, hrest], hev3⟩⟩
            have B3 := hide b3
            have HBN := hide hbn
            clear b3 hbn hr3 c1 c2 c3 z1
            go_wp2_with fail
            refine (rtruth_any _ _).mono ?_
            rintro en w4 ⟨rfl, hw4⟩
            have hw5 := hw4.symm
            subst hw5
            clear hw4
            have HP3 : Hid (SideP w n₀ b s p d e va vars sets k (truthI ((a != 0) && (bn != 0))) p2 f2 e2 t2 sv2 w3) := hide ⟨(unhide HP).bel.trans ((below_some (grown_setCell wr ⟨b, 1, none⟩ (.int .i64 (q : Int))) (Nat.le_of_lt (unhide HP).ws.wk.blk.lt)).trans (unhide B3)), i64_truth _, by have := (unhide HP).le; omega, unhide HW3, by
              have hy := unhide HY
              cases f2
              · obtain ⟨y, hy1, hy2⟩ := hy
                refine ⟨_, (unhide HDL).trans hy1, ?_⟩
                rw [rank2 (unhide HOK) ((unhide HRK).trans (unhide HK))]
                refine Ev.and (unhide HEV) ?_
                rw [if_neg (by simpa using ha)]
                exact hy2
              · exact (unhide HDL).trans hy⟩
            go_wp2_with fail
            refine (rop_any b s p2 d f2 e2 va sv2 _ (unhide HP3).ws.wk).mono ?_
            rintro en w5 ⟨rfl, hk5, g5⟩
            have HI5 := hide ((unhide HP3).op hk5 g5)
            have hat5 := hk5.at
            have hsk5 := skp_le (unhide HP3).ws.wk.le
            have HAT := hide (show s.size - atOf b w5 < s.size - atOf b wr by rw [hat5, (unhide HP).ws.wk.at]; omega)
            clear hk5 g5 hat5 hsk5
            generalize opR (sbb s (skp s p2)) (sbb s (skp s p2 + 1)) (s.extract (skp s p2) (skp s p2 + 1)) = q5 at HI5 ⊢
            obtain ⟨tt5, rr5⟩ := q5
            go_wp2
            go_roundw
            case rel => exact ⟨_, _, _, rfl, rfl, rfl, HI5⟩
            case measure => exact unhide HAT
        have k3 : ((k : Int) == 1) = false := by rw [beq_eq_false_iff_ne]; omega
        have k4 : ((k : Int) == 2) = false := by rw [beq_eq_false_iff_ne]; omega
        have HW2 : Hid (Ws (wr.setCell ⟨b, 1, none⟩ (.int .i64 (q : Int))) n₀ b s q d false e1 va vars t1 sv1) := hide ((unhide HP).ws.next (grown_setCell wr ⟨b, 1, none⟩ _) ((unhide HP).ws.wk.to q hql.1) (by omega) (by omega))
        go_wp2_with fail
        refine (unhide HS _ n₀ b s q d e1 va vars t1 sv1 (unhide HW2) hN2 _ rfl).mono ?_
        rintro en w3 ⟨b3, bn, rfl, hbn, p2, e2, t2, sv2, hp2, hr3⟩
        obtain ⟨f2, HW3, HY⟩ : ∃ f2, Hid (Ws w3 n₀ b s p2 d f2 e2 va vars t2 sv2) ∧ Hid (if f2 = true then DL k x (s.data.toList.drop p1) = none else ∃ y, DL k x (s.data.toList.drop p1) = DL k (.op o x y) (s.data.toList.drop p2) ∧ Ev vars y (liveB d false e1) e1 t1 bn e2 t2) := by
          have hon := unhide HON
          rw [← unhide HK1] at hon
          rcases hq : DS k1 (s.data.toList.drop q) with _ | ⟨y, rest⟩
          · rw [hq] at hr3 hon
            exact ⟨true, hide hr3, hide hon⟩
          · rw [hq] at hr3 hon
            obtain ⟨hws, hrest, hev3⟩ := hr3
            exact ⟨false, hide hws, hide ⟨y, by rw [hon, hrest], hev3⟩⟩
        have B3 := hide b3
        have HBN := hide hbn
        clear b3 hbn hr3 c1 c2 c3 z1
        go_wp2_with fail
        have ht := unhide HT
        subst ht
        have HB3 := hide ((unhide HP).bel.trans ((below_some (grown_setCell wr ⟨b, 1, none⟩ (.int .i64 (q : Int))) (Nat.le_of_lt (unhide HP).ws.wk.blk.lt)).trans (unhide B3)))
        have HPL : Hid (p ≤ p2) := hide (by have := (unhide HP).le; omega)
        refine (side_of (unhide HB3) (unhide HPL) (unhide HP).num (unhide HW3) (unhide HFO) (by have := unhide HRK; omega) (unhide HEV) (unhide HDL) (unhide HY)).mono ?_
        rintro en w4 ⟨a3, e3, rfl, hp3⟩
        have HP3 := hide hp3
        clear hp3
        go_wp2_with fail
        refine (rop_any b s p2 d f2 e3 va sv2 _ (unhide HP3).ws.wk).mono ?_
        rintro en w5 ⟨rfl, hk5, g5⟩
        have HI5 := hide ((unhide HP3).op hk5 g5)
        have hat5 := hk5.at
        have hsk5 := skp_le (unhide HP3).ws.wk.le
        have HAT := hide (show s.size - atOf b w5 < s.size - atOf b wr by rw [hat5, (unhide HP).ws.wk.at]; omega)
        clear hk5 g5 hat5 hsk5
        generalize opR (sbb s (skp s p2)) (sbb s (skp s p2 + 1)) (s.extract (skp s p2) (skp s p2 + 1)) = q5 at HI5 ⊢
        obtain ⟨tt5, rr5⟩ := q5
        go_wp2
        go_roundw
        case rel => exact ⟨_, _, _, rfl, rfl, rfl, HI5⟩
        case measure => exact unhide HAT
      · go_wp2
        go_ret
        refine ⟨(unhide HP).bel, a, rfl, (unhide HP).num, p1, e1, t1, sv1, (unhide HP).le, ?_⟩
        rw [hdl, hdl2]
        exact ⟨(unhide HP).ws, rfl, hev⟩
    · go_wp2
      go_ret
      refine ⟨(unhide HP).bel, a, rfl, (unhide HP).num, p1, e1, t1, sv1, (unhide HP).le, ?_⟩
      rw [show DS k (s.data.toList.drop p) = none from hi]
      exact (unhide HP).ws

end Go.Proofs.YtlbpeknncakfeaaGreatDoor

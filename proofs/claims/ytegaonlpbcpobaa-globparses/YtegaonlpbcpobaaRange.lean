/-
  A range over an iterator that keeps variables of its own in memory: the iterator's word ('Iters') names how many blocks it lays for itself when it begins (m); a round leaves these, and the blocks that it names, as they lay ('Spares'); the caller's word between two rounds stands whatever the iterator does to its own blocks ('Turns').
-/
import Derived.Test.YtegaonlpbcpobaaMem
import Derived.RangeFuncNested
import Derived.RangeFuncBound
import Derived.RangeFuncCalls
import Derived.RangeFuncLeaves
import Derived.Shelf.Abstract
import Derived.Shelf.RegionOpen
import Derived.OwnWalkIn
import Derived.TacticsInMore
import Derived.LoopNIn
import Derived.LoopIn
namespace Go.Proofs.Ytegaonlpbcpobaa
open Go.RowKit Go.Shelf

/-- The blocks that K names, and the m blocks from B on, lie as they lay. -/
structure Spares (B m : Nat) (K : Nat → Prop) (W W' : World) : Prop where
  os : W'.os = W.os
  tape : W'.tape = W.tape
  output : W'.output = W.output
  size : W.heap.size ≤ W'.heap.size
  block : ∀ k, K k ∨ (B ≤ k ∧ k < B + m) → W'.heap[k]? = W.heap[k]?

theorem Spares.refl (B m : Nat) (K : Nat → Prop) (W : World) : Spares B m K W W := ⟨rfl, rfl, rfl, Nat.le_refl _, fun _ _ => rfl⟩
theorem Spares.trans {B m : Nat} {K : Nat → Prop} {X Y Z : World} (h : Spares B m K X Y) (k : Spares B m K Y Z) : Spares B m K X Z :=
  ⟨k.os.trans h.os, k.tape.trans h.tape, k.output.trans h.output, Nat.le_trans h.size k.size, fun i hi => (k.block i hi).trans (h.block i hi)⟩
theorem Spares.narrow {B m B' m' : Nat} {K : Nat → Prop} {X Y : World} (h : Spares B m K X Y) (h1 : B ≤ B') (h2 : B' + m' ≤ B + m) : Spares B' m' K X Y :=
  ⟨h.os, h.tape, h.output, h.size, fun i hi => h.block i (hi.imp id (fun h => ⟨by omega, by omega⟩))⟩
theorem Spares.of_below {B m : Nat} {K : Nat → Prop} {X Y : World} (h : Below X.heap.size X Y) (h1 : ∀ k, K k → k < X.heap.size) (h2 : B + m ≤ X.heap.size) : Spares B m K X Y :=
  ⟨h.os, h.tape, h.output, h.size, fun i hi => h.block i (hi.elim (h1 i) (fun h => by omega))⟩
theorem Spares.alloc {B m : Nat} {K : Nat → Prop} {X Y : World} (h : Spares B m K X Y) (h1 : ∀ k, K k → k < Y.heap.size) (h2 : B + m ≤ Y.heap.size) (o : Obj) : Spares B m K X (Y.alloc o) :=
  h.trans (.of_below ((Below.refl _ _).alloc (Nat.le_refl _) o) h1 h2)
theorem Spares.setCell {B m : Nat} {K : Nat → Prop} {X Y : World} (h : Spares B m K X Y) {p : Addr} (h1 : ¬ K p.block) (h2 : ¬ (B ≤ p.block ∧ p.block < B + m)) (u : Value) : Spares B m K X (Y.setCell p u) :=
  h.trans ⟨rfl, rfl, rfl, by simp, fun i hi => Below.heap_setCell _ _ _ _ (fun e => by subst e; exact hi.elim h1 h2)⟩
theorem Spares.putObj {B m : Nat} {K : Nat → Prop} {X Y : World} (h : Spares B m K X Y) {l : Nat} (h1 : ¬ K l) (h2 : ¬ (B ≤ l ∧ l < B + m)) (o : Obj) : Spares B m K X (Y.putObj l o) :=
  h.trans ⟨rfl, rfl, rfl, by simp, fun i hi => World.putObj_heap_other (fun e => by subst e; exact hi.elim h1 h2)⟩
theorem Turns.putObj {B m : Nat} {X Y : World} (h : Turns B m X Y) {l : Nat} (h1 : B ≤ l) (h2 : l < B + m) (o : Obj) : Turns B m X (Y.putObj l o) :=
  h.trans ⟨rfl, rfl, rfl, by simp, fun i _ hn => World.putObj_heap_other (fun e => hn (by subst e; exact ⟨h1, h2⟩))⟩

/-- The iterator's word, at the world w in which the loop begins. -/
def Iters {α : Type} (n : Nat) (P : Program) (g : Nat) (lb : Array Value) (encs : α → Array Value) (T : Nat → α → World → Prop) (n₀ : Nat → Prop) (m N : Nat) (S Sp : List α → Prop) (w : World) : Prop :=
  ∀ (l : Nat) (J Jx : List α → World → Prop) (W : World), Below w.heap.size w W → l < W.heap.size →
    (∀ s A B, J s A → Turns W.heap.size m A B → J s B) →
    (∀ pre x W1, J pre W1 → T (W.heap.size + m) x W1 → W.heap.size + m ≤ W1.heap.size → pre.length < N → YieldAt Fence.wide (n - 1) P l (encs x) W1 fun e W' =>
      (e = .returned (.bool true) ∧ J (pre ++ [x]) W' ∧ Spares W.heap.size m n₀ W1 W') ∨ (e = .returned (.bool false) ∧ Jx (pre ++ [x]) W')) →
    J [] W →
    CallsIn Fence.wide n P g (#[.func (.yield l) #[] #[]] ++ lb) W fun e W' => (∃ v, e = .returned v) ∧ ((∃ xs, S xs ∧ J xs W') ∨ (∃ pre, Sp pre ∧ Jx pre W'))

/-- How a round's body may be left. -/
def roundEnd {α : Type} (B m : Nat) (n₀ : Nat → Prop) (I : List α → World → Prop) (Ix : Code → List α → World → Prop) (xs : List α) (W : World) : Exit → Act → World → Prop
  | .normal, _, W' => Spares B m n₀ W W' ∧ I xs W'
  | .ret, _, W' => Spares B m n₀ W W' ∧ Ix .ret xs W'
  | .exit id, _, W' => Spares B m n₀ W W' ∧ Ix (.exit id) xs W'
  | .goto t, _, W' => Spares B m n₀ W W' ∧ Ix (.goto t) xs W'
  | .panic _, _, _ => False
  | .outgrown, _, _ => False

theorem range_turns {α : Type} {n : Nat} {P : Program} {g : Operand} {ps : Array Tmp} {assign body : Code} {Q : Exit → Act → World → Prop} {a : Act} {w : World}
    {gf : Nat} {lb : Array Value} (hg : a.eval g = .func (.func gf) #[] lb) (eg : ∀ args w, (callFunc gf args).run P w = .ok (.enter gf args) w) (hn : 1 ≤ n)
    {encs : α → Array Value} {T : Nat → α → World → Prop} {n₀ : Nat → Prop} {m N : Nat} {S Sp : List α → Prop} (hseq : Iters (n - 1) P gf lb encs T n₀ m N S Sp w) (hn₀ : ∀ k, n₀ k → k < w.heap.size) (hps : ∀ x, (encs x).size = ps.size)
    (I : List α → World → Prop) (Ix : Code → List α → World → Prop) (Ax : List α → α → Act → World → Prop)
    (hI : ∀ s A B, I s A → Turns w.heap.size (m + 2) A B → I s B) (hIx : ∀ c s A B, Ix c s A → Turns w.heap.size 2 A B → Ix c s B) (hAx : ∀ s x a' A B, Ax s x a' A → Turns w.heap.size 2 A B → Ax s x a' B) (h0 : I [] w)
    (hassign : ∀ (l : Nat) (pre : List α) (x : α) (W : World) (K : Act → World → Prop), I pre W → T (w.heap.size + 2 + m) x W → w.heap.size + 2 + m ≤ W.heap.size → pre.length < N →
      (∀ a' W', Spares w.heap.size (m + 2) n₀ W W' → Ax pre x a' W' → K a' W') →
      assign.wpIn (Fence.wide.inRound l) (n - 1 - 1) P (Exit.then K (fun _ _ _ => False)) { tmps := (ps.zip (encs x)).foldl (fun t (p, v) => t.setIfInBounds p v) a.tmps, defers := [] } W)
    (hbody : ∀ (l : Nat) (pre : List α) (x : α) (a' : Act) (W : World), Ax pre x a' W → w.heap.size + 2 + m ≤ W.heap.size → body.wpIn (Fence.wide.inRound l) (n - 1 - 1) P (roundEnd w.heap.size (m + 2) n₀ I Ix (pre ++ [x]) W) a' W)
    (hdone : ∀ (xs : List α) (W : World), S xs → I xs W → W.heap[w.heap.size]? = some (.deferred (some [])) → Q .normal { a with defers := { target := .collected w.heap.size, args := #[] } :: a.defers } W)
    (hstop : ∀ (c : Code) (pre : List α) (W : World), Sp pre → Ix c pre W → W.heap[w.heap.size]? = some (.deferred (some [])) → c.wpIn Fence.wide n P Q { a with defers := { target := .collected w.heap.size, args := #[] } :: a.defers } W) :
    (Code.rangeFunc g ps assign body).wpIn Fence.wide n P Q a w := by
  refine wpIn_rangeFunc ?_
  intro fn hfn
  obtain ⟨rc, hrc⟩ : ∃ rc : LoopState → Option Code → Loop, rc = fun st pe => { state := st, pending := pe, fn, tmps := a.tmps, params := ps, assign, body, defers := w.heap.size } := ⟨_, rfl⟩
  obtain ⟨W1, hW1⟩ : ∃ W1, (w.alloc (.deferred (some []))).alloc (.loop (rc .ready none)) = W1 := ⟨_, rfl⟩
  have hsz : W1.heap.size = w.heap.size + 2 := by rw [← hW1]; simp
  have hB1 : Below w.heap.size w W1 := by rw [← hW1]; exact ((Below.refl _ w).alloc (Nat.le_refl _) _).alloc (by simp) _
  have hL1 : W1.heap[w.heap.size + 1]? = some (.loop (rc .ready none)) := by
    rw [← hW1]; have := World.alloc_heap_new (w.alloc (.deferred (some []))) (.loop (rc .ready none)); rwa [World.size_alloc] at this
  have hK1 : W1.heap[w.heap.size]? = some (.deferred (some [])) := by
    rw [← hW1]; exact (Below.heap_alloc _ _ _ (by simp)).trans (World.alloc_heap_new w _)
  refine ⟨w.heap.size + 1, [{ target := .collected w.heap.size, args := #[] }], W1, { target := .fn (.func gf) lb, args := #[.func (.yield (w.heap.size + 1)) #[] #[]] }, W1, gf,
    #[.func (.yield (w.heap.size + 1)) #[] #[]] ++ lb, W1, ?_, ?_, ?_, ?_, fun _ => hn, ?_⟩
  · rw [← hW1, hrc]; exact run_enterLoop_outer _ _ _ _ _
  · simp only [resolve, hg]
    simp [go_sem]
  · intro f' _; trivial
  · simp [invoke, go_sem, eg]
  refine (hseq (w.heap.size + 1)
    (fun pre W => I pre W ∧ W.heap[w.heap.size + 1]? = some (.loop (rc .ready none)) ∧ W.heap[w.heap.size]? = some (.deferred (some [])))
    (fun pre W => ∃ c, Ix c pre W ∧ W.heap[w.heap.size + 1]? = some (.loop (rc .done (some c))) ∧ W.heap[w.heap.size]? = some (.deferred (some [])))
    W1 hB1 (by omega) ?_ ?_ ⟨hI _ _ _ h0 (Turns.of_below hB1), hL1, hK1⟩).mono ?_
  · rintro s A B ⟨hi, hl, hk⟩ ht
    rw [hsz] at ht
    have h1 := (Array.getElem?_eq_some_iff.1 hl).1
    exact ⟨hI _ _ _ hi (ht.wider (by omega) (by omega)), (ht.block _ h1 (by omega)).trans hl, (ht.block _ (by omega) (by omega)).trans hk⟩
  · rintro pre x W ⟨hi, hl, hk⟩ hT hmW hlen
    rw [hsz] at hT hmW
    have hy := run_yield (P := P) (args := encs x) hl (by rw [hrc]; exact hps x)
    rw [hrc] at hy
    refine ⟨fn, _, assign, body, hy, roundIn_of_wpIn hfn (hassign _ pre x W _ hi hT hmW hlen ?_)⟩
    intro a' W2 hs2 hax
    have hl2 : W2.heap[w.heap.size + 1]? = some (.loop (rc .ready none)) := (hs2.block _ (.inr (by omega))).trans hl
    have hk2 : W2.heap[w.heap.size]? = some (.deferred (some [])) := (hs2.block _ (.inr (by omega))).trans hk
    have hm2 := hs2.size
    refine ⟨_, run_beginRound hl2 (by rw [hrc]), ?_⟩
    obtain ⟨W3, hW3⟩ : ∃ W3, W2.putObj (w.heap.size + 1) (.loop { rc .ready none with state := .busy }) = W3 := ⟨_, rfl⟩
    have hl3 : W3.heap[w.heap.size + 1]? = some (.loop { rc .ready none with state := .busy }) := by rw [← hW3]; exact World.putObj_heap_same (by omega)
    have hk3 : W3.heap[w.heap.size]? = some (.deferred (some [])) := by rw [← hW3]; exact (World.putObj_heap_other (by omega)).trans hk2
    have hs3 : W3.heap.size = W2.heap.size := by rw [← hW3]; simp
    have hsp3 : Spares (w.heap.size + 2) m n₀ W W3 := by rw [← hW3]; exact (hs2.narrow (by omega) (by omega)).putObj (fun h => by have := hn₀ _ h; omega) (by omega) _
    have hax3 : Ax pre x a' W3 := by rw [← hW3]; exact hAx _ _ _ _ _ hax ((Turns.refl _ _ _).putObj (by omega) (by omega) _)
    rw [hW3]
    refine wpIn_mono (hbody _ pre x a' W3 hax3 (by omega)) ?_
    have fin : ∀ (jump : Option Code) (W4 : World), Spares w.heap.size (m + 2) n₀ W3 W4 →
        (Instr.endRound (w.heap.size + 1) jump).run P W4 = .ok (.bool jump.isNone) (W4.putObj (w.heap.size + 1) (.loop (rc (if jump.isNone then .ready else .done) jump))) ∧
        (W4.putObj (w.heap.size + 1) (.loop (rc (if jump.isNone then .ready else .done) jump))).heap[w.heap.size + 1]? = some (.loop (rc (if jump.isNone then .ready else .done) jump)) ∧
        (W4.putObj (w.heap.size + 1) (.loop (rc (if jump.isNone then .ready else .done) jump))).heap[w.heap.size]? = some (.deferred (some [])) := fun jump W4 hs4 => by
      have hl4 : W4.heap[w.heap.size + 1]? = some (.loop { rc .ready none with state := .busy }) := (hs4.block _ (.inr (by omega))).trans hl3
      have hk4 : W4.heap[w.heap.size]? = some (.deferred (some [])) := (hs4.block _ (.inr (by omega))).trans hk3
      have := run_endRound (P := P) jump hl4
      rw [hrc] at this ⊢
      exact ⟨this, World.putObj_heap_same (Array.getElem?_eq_some_iff.1 hl4).1, (World.putObj_heap_other (by omega)).trans hk4⟩
    rintro e a4 W4 hp
    cases e with
    | normal =>
      obtain ⟨hs4, hi4⟩ := hp
      obtain ⟨hr, hl5, hk5⟩ := fin none W4 hs4
      rw [hsz]
      exact ⟨_, _, hr, .inl ⟨rfl, ⟨hI _ _ _ hi4 ((Turns.refl _ _ _).putObj (by omega) (by omega) _), hl5, hk5⟩, (hsp3.trans (hs4.narrow (by omega) (by omega))).putObj (fun h => by have := hn₀ _ h; omega) (by omega) _⟩⟩
    | ret =>
      obtain ⟨hs4, hi4⟩ := hp
      obtain ⟨hr, hl5, hk5⟩ := fin (some .ret) W4 hs4
      exact ⟨_, _, hr, .inr ⟨rfl, .ret, hIx _ _ _ _ hi4 ((Turns.refl _ _ _).putObj (by omega) (by omega) _), hl5, hk5⟩⟩
    | exit id =>
      obtain ⟨hs4, hi4⟩ := hp
      obtain ⟨hr, hl5, hk5⟩ := fin (some (.exit id)) W4 hs4
      exact ⟨_, _, hr, .inr ⟨rfl, .exit id, hIx _ _ _ _ hi4 ((Turns.refl _ _ _).putObj (by omega) (by omega) _), hl5, hk5⟩⟩
    | goto t =>
      obtain ⟨hs4, hi4⟩ := hp
      obtain ⟨hr, hl5, hk5⟩ := fin (some (.goto t)) W4 hs4
      exact ⟨_, _, hr, .inr ⟨rfl, .goto t, hIx _ _ _ _ hi4 ((Turns.refl _ _ _).putObj (by omega) (by omega) _), hl5, hk5⟩⟩
    | panic ch => exact hp.elim
    | outgrown => exact hp.elim
  · rintro e W2 ⟨⟨v, rfl⟩, (⟨xs, hS, hi, hl, hk⟩ | ⟨pre, hSp, c, hi, hl, hk⟩)⟩
    · exact ⟨none, _, by have := run_endLoop (P := P) hl (by rw [hrc]; simp); rw [hrc] at this; exact this, hdone xs _ hS (hI _ _ _ hi ((Turns.refl _ _ _).putObj (by omega) (by omega) _)) ((World.putObj_heap_other (by omega)).trans hk)⟩
    · exact ⟨some c, _, by have := run_endLoop (P := P) hl (by rw [hrc]; simp); rw [hrc] at this; exact this, hstop c pre _ hSp (hIx _ _ _ _ hi ((Turns.refl _ _ _).putObj (by omega) (by omega) _)) ((World.putObj_heap_other (by omega)).trans hk)⟩

end Go.Proofs.Ytegaonlpbcpobaa

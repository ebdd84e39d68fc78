/-
  What the lexer hands back: a row of tokens, five cells each.
-/
import Derived.Test.YtlmpdfeidjnmnaaDoorLex
namespace Go.Proofs.YtlmpdfeidjnmnaaDoor
open Go.RowKit

theorem flatT_get (ts : List Tok) : ∀ (i : Nat) (t : Tok), ts[i]? = some t → ∀ j x, t.cells[j]? = some x → j < 5 → (flatT ts)[5 * i + j]? = some x := by
  induction ts with
  | nil => intro i t h; simp at h
  | cons a ts ih =>
    intro i t h j x hx hj
    have e : flatT (a :: ts) = a.cells.toList ++ flatT ts := by simp [flatT]
    have hl : a.cells.toList.length = 5 := rfl
    rw [e]
    cases i with
    | zero =>
      simp at h
      subst h
      rw [List.getElem?_append_left (by rw [hl]; omega)]
      simpa using hx
    | succ i =>
      rw [List.getElem?_append_right (by rw [hl]; omega), hl, show 5 * (i + 1) + j - 5 = 5 * i + j by omega]
      exact ih i t (by simpa using h) j x hx hj
theorem flatT_len (ts : List Tok) : (flatT ts).length = 5 * ts.length := by
  induction ts with
  | nil => rfl
  | cons a ts ih =>
    have e : flatT (a :: ts) = a.cells.toList ++ flatT ts := by simp [flatT]
    rw [e, List.length_append, ih, show a.cells.toList.length = 5 from rfl, List.length_cons]
    omega

/-- v holds the tokens ts, below the n-th block or not. -/
structure TRow (w : World) (v : Value) (ts : List Tok) : Prop where
  shape : ∃ ad cap, v = .slice ad ts.length cap ∧ ∀ (i : Nat) (t : Tok), ts[i]? = some t → ∃ g, ad = some ⟨g, 0, none⟩ ∧ g < w.heap.size ∧ ∀ j x, t.cells[j]? = some x → j < 5 → w.cell? ⟨g, 5 * i + j, none⟩ = some x
theorem trow_of {w : World} {base : Nat} {v : Value} {ts : List Tok} (h : w.ownsRow base 37 5 v ts.length (flatT ts)) : TRow w v ts := by
  obtain ⟨h1, ⟨rfl, h0⟩ | ⟨g, cap, cur, rfl, _, hg, _, _, _, htk⟩⟩ := h
  · refine ⟨none, 0, by rw [h0], fun i t hi => ?_⟩
    have : ts = [] := List.eq_nil_of_length_eq_zero (by omega)
    rw [this] at hi
    simp at hi
  · refine ⟨_, cap, rfl, fun i t hi => ⟨g, rfl, (Array.getElem?_eq_some_iff.1 hg).1, fun j x hx hj => ?_⟩⟩
    have hil := (List.getElem?_eq_some_iff.1 hi).1
    have hp := flatT_get ts i t hi j x hx hj
    rw [← htk, List.getElem?_take, if_pos (by omega)] at hp
    exact Blk.cell (show Blk w g 37 cur from hg) (5 * i + j) (by simpa using hp)
theorem TRow.below {w w1 : World} {v : Value} {ts : List Tok} (h : TRow w v ts) {n : Nat} (hb : Below n w w1) (hn : w.heap.size ≤ n) : TRow w1 v ts := by
  obtain ⟨ad, cap, h1, h2⟩ := h.shape
  refine ⟨ad, cap, h1, fun i t hi => ?_⟩
  obtain ⟨g, h3, h4, h5⟩ := h2 i t hi
  refine ⟨g, h3, Nat.lt_of_lt_of_le h4 hb.size, fun j x hx hj => ?_⟩
  rw [World.cell?_of_block (hb.block g (by omega))]
  exact h5 j x hx hj

/-- What the walks ask of the world: the table of operators and the greatest length of a text that is searched at once. -/
structure Env (w : World) : Prop where
  ops : OpsAt w
  max : ∃ m : Int, w.cell? ⟨1, 0, none⟩ = some (.int .i64 m)
  two : 1 < w.heap.size
theorem Env.below {w w1 : World} (h : Env w) {n : Nat} (hb : Below n w w1) (hn : w.heap.size ≤ n) : Env w1 := by
  have h2 := h.two
  obtain ⟨m, hm⟩ := h.max
  exact ⟨h.ops.of (hb.block 0 (by omega)), ⟨m, by rw [World.cell?_of_block (hb.block 1 (by omega))]; exact hm⟩, Nat.lt_of_lt_of_le h2 hb.size⟩

theorem lex_env (s : ByteArray) (w : World) (hs : s.size ≤ 100000) (he : Env w) :
    Calls Tryd.prog 12 #[.string s] w fun e w' => ∃ v, e = .returned (.tuple #[v, .int .i64 (lexL s.data.toList).2.1, .int .i64 (lexL s.data.toList).2.2]) ∧ Below w.heap.size w w' ∧ TRow w' v (lexL s.data.toList).1 := by
  obtain ⟨m, hm⟩ := he.max
  refine (lex_any s m w hs hm he.ops he.two).mono ?_
  rintro e w' ⟨v, rfl, hb, hr⟩
  exact ⟨v, rfl, hb, trow_of hr⟩

end Go.Proofs.YtlmpdfeidjnmnaaDoor

/-
  The document's rows of tokens and of awaited texts; how far its loop is.
-/
import Derived.Test.YtlmpdfeidjnmnaaDoorRLoop
import Derived.Test.YtlmpdfeidjnmnaaDoorRows5
import Derived.Test.YtlmpdfeidjnmnaaDoorRBody
import Derived.Test.YtlmpdfeidjnmnaaDoorRBare
import Derived.Test.YtlmpdfeidjnmnaaDoorROps
import Derived.Laws.OwnMore
namespace Go.Proofs.YtlmpdfeidjnmnaaDoor
open Go.RowKit

theorem und_rtok : Tryd.prog.underlying 30 = some (.slice 65) := by kernel_rfl
theorem info_rtok : (Tryd.prog.info? 65).map (fun i => (i.zero, i.size, i.bytes)) = some (some (.agg #[.int .i64 0, .string ⟨#[]⟩, .int .i64 0, .string ⟨#[]⟩, .bool false]), 5, 56) := by kernel_rfl
theorem und_rwt : Tryd.prog.underlying 60 = some (.slice 67) := by kernel_rfl
theorem info_rwt : (Tryd.prog.info? 67).map (fun i => (i.zero, i.size, i.bytes)) = some (some (.agg #[.int .i64 0, .string ⟨#[]⟩]), 2, 24) := by kernel_rfl

theorem type_ne {w : World} {base n k sz : Nat} {e t : TypeId} {v : Value} {xs : List Value} {cs : Array Value} (h : w.ownsRow base e sz v n xs) (hb : Blk w k t cs) (hne : t ≠ e) : some k ≠ v.ownBlock := by
  rcases h.2 with ⟨rfl, _⟩ | ⟨g, cap, cur, rfl, _, hg, _⟩
  · simp [Value.ownBlock]
  · intro hk
    have hk : k = g := by simpa [Value.ownBlock] using hk
    subst hk
    rw [show w.heap[k]? = _ from hb] at hg
    injection hg with hg
    injection hg with _ h2 _
    exact hne h2
theorem row_ne {w : World} {base base' n n' sz sz' : Nat} {e e' : TypeId} {v u : Value} {xs ys : List Value} (h : w.ownsRow base e sz v n xs) (h' : w.ownsRow base' e' sz' u n' ys) (hne : e ≠ e') : v.ownBlock = none ∨ v.ownBlock ≠ u.ownBlock := by
  rcases h.2 with ⟨rfl, _⟩ | ⟨g, cap, cur, rfl, _, hg, _⟩
  · exact .inl rfl
  · right
    intro e1
    exact type_ne h' (show Blk w g e cur from hg) hne e1

/-- One cell of one token is another now. -/
theorem flatT_set (g : Tok → Tok) (j : Nat) (x : Value) (hj : j < 5) (hg : ∀ t : Tok, (g t).cells.toList = t.cells.toList.set j x) : ∀ (ts : List Tok) (i : Nat), i < ts.length → (flatT ts).set (i * 5 + j) x = flatT (ts.modify i g)
  | [], i, h => by simp at h
  | a :: ts, i, h => by
    have e : ∀ b l, flatT (b :: l) = b.cells.toList ++ flatT l := fun b l => by simp [flatT]
    have hl : a.cells.toList.length = 5 := rfl
    cases i with
    | zero =>
      rw [e, List.modify_zero_cons, e, hg a, List.set_append_left _ _ (by rw [hl]; omega)]
      simp
    | succ i =>
      rw [e, List.modify_succ_cons, e, List.set_append_right _ _ (by rw [hl]; omega), hl, show (i + 1) * 5 + j - 5 = i * 5 + j by omega, flatT_set g j x hj hg ts i (by simpa using h)]

/-- The awaited texts, two cells each. -/
def flatW (ws : List Wt) : List Value := ws.flatMap (fun x => [.int .i64 (x.tok : Int), .string (BA x.en)])
theorem flatW_snoc (ws : List Wt) (x : Wt) : flatW (ws ++ [x]) = flatW ws ++ [.int .i64 (x.tok : Int), .string (BA x.en)] := by simp [flatW]
theorem flatW_get (ws : List Wt) : ∀ (i : Nat) (x : Wt), ws[i]? = some x → (flatW ws)[i * 2]? = some (.int .i64 (x.tok : Int)) ∧ (flatW ws)[i * 2 + 1]? = some (.string (BA x.en)) := by
  induction ws with
  | nil => intro i x h; simp at h
  | cons a ws ih =>
    intro i x h
    have e : flatW (a :: ws) = .int .i64 (a.tok : Int) :: .string (BA a.en) :: flatW ws := by simp [flatW]
    rw [e]
    cases i with
    | zero => simp at h; subst h; exact ⟨rfl, rfl⟩
    | succ i =>
      obtain ⟨h1, h2⟩ := ih i x (by simpa using h)
      rw [show (i + 1) * 2 = i * 2 + 1 + 1 by omega]
      exact ⟨by simpa using h1, by simpa using h2⟩

/-- Where the tokens lie. -/
theorem out_shape {w : World} {base n : Nat} {v : Value} {ts : List Tok} (h : w.ownsRow base 65 5 v n (flatT ts)) (hn : n = ts.length) : ∃ ad cap, v = .slice ad n cap ∧ ∀ (i : Nat) (t : Tok), ts[i]? = some t → ∃ g, ad = some ⟨g, 0, none⟩ ∧ base ≤ g ∧ g < w.heap.size ∧ (∀ j, w.frozen? ⟨g, j, none⟩ = false) ∧ ∀ j x, t.cells[j]? = some x → j < 5 → w.cell? ⟨g, i * 5 + j, none⟩ = some x := by
  subst hn
  have hrow := h
  obtain ⟨h1, ⟨rfl, h0⟩ | ⟨g, cap, cur, rfl, hb, hg, _, _, _, htk⟩⟩ := h
  · refine ⟨none, 0, by rw [h0], fun i t hi => ?_⟩
    have : ts = [] := List.eq_nil_of_length_eq_zero (by omega)
    rw [this] at hi
    simp at hi
  · refine ⟨_, cap, rfl, fun i t hi => ⟨g, rfl, hb, (Array.getElem?_eq_some_iff.1 hg).1, fun j => hrow.frozenAt j, fun j x hx hj => ?_⟩⟩
    have hil := (List.getElem?_eq_some_iff.1 hi).1
    have hp := flatT_get ts i t hi j x hx hj
    rw [← htk, List.getElem?_take, if_pos (by omega), show 5 * i + j = i * 5 + j by omega] at hp
    exact Blk.cell (show Blk w g 65 cur from hg) (i * 5 + j) (by simpa using hp)
theorem wt_shape {w : World} {base n : Nat} {u : Value} {ws : List Wt} (h : w.ownsRow base 67 2 u n (flatW ws)) (hn : n = ws.length) : ∃ ad cap, u = .slice ad n cap ∧ ∀ (i : Nat) (x : Wt), ws[i]? = some x → ∃ g, ad = some ⟨g, 0, none⟩ ∧ base ≤ g ∧ g < w.heap.size ∧ w.cell? ⟨g, i * 2, none⟩ = some (.int .i64 (x.tok : Int)) ∧ w.cell? ⟨g, i * 2 + 1, none⟩ = some (.string (BA x.en)) := by
  subst hn
  obtain ⟨h1, ⟨rfl, h0⟩ | ⟨g, cap, cur, rfl, hb, hg, _, _, _, htk⟩⟩ := h
  · refine ⟨none, 0, by rw [h0], fun i x hi => ?_⟩
    have : ws = [] := List.eq_nil_of_length_eq_zero (by omega)
    rw [this] at hi
    simp at hi
  · refine ⟨_, cap, rfl, fun i x hi => ⟨g, rfl, hb, (Array.getElem?_eq_some_iff.1 hg).1, ?_⟩⟩
    have hil := (List.getElem?_eq_some_iff.1 hi).1
    obtain ⟨p1, p2⟩ := flatW_get ws i x hi
    rw [← htk, List.getElem?_take, if_pos (by omega)] at p1 p2
    exact ⟨Blk.cell (show Blk w g 67 cur from hg) (i * 2) (by simpa using p1), Blk.cell (show Blk w g 67 cur from hg) (i * 2 + 1) (by simpa using p2)⟩
theorem trow_any {w : World} {base n : Nat} {v : Value} {ts : List Tok} (h : w.ownsRow base 65 5 v n (flatT ts)) (hn : n = ts.length) : TRow w v ts := by
  obtain ⟨ad, cap, h1, h2⟩ := out_shape h hn
  refine ⟨ad, cap, by rw [h1, hn], fun i t hi => ?_⟩
  obtain ⟨g, h3, _, h4, _, h5⟩ := h2 i t hi
  exact ⟨g, h3, h4, fun j x hx hj => by rw [show 5 * i + j = i * 5 + j by omega]; exact h5 j x hx hj⟩

/-- The rows of a state. -/
structure Rws (B : Nat) (wr : World) (v u : Value) (st : LS) : Prop where
  out : wr.ownsRow B 65 5 v st.toks.length (flatT st.toks)
  wts : wr.ownsRow B 67 2 u st.wait.length (flatW st.wait)
theorem Rws.keep {B : Nat} {wr w1 : World} {v u : Value} {st : LS} (h : Rws B wr v u st) (hb : Below wr.heap.size wr w1) : Rws B w1 v u st :=
  ⟨own_grownS h.out (grownS_of_below (S := fun _ => False) hb) (fun _ _ e => e), own_grownS h.wts (grownS_of_below (S := fun _ => False) hb) (fun _ _ e => e)⟩
theorem Rws.rest {B : Nat} {wr : World} {v u : Value} {st : LS} (h : Rws B wr v u st) (r : List UInt8) : Rws B wr v u { st with rest := r } := ⟨h.out, h.wts⟩
/-- A token more. -/
theorem Rws.push {B : Nat} {w1 w2 : World} {v v' u : Value} {st : LS} {o : Obj} {kind pos : Int} {text : List UInt8} (h : Rws B w1 v u st) (hown : w2.ownsRow B 65 5 v' (st.toks.length + 1) (flatT st.toks ++ [.int .i64 kind, .string (BA text), .int .i64 pos, .string ⟨#[]⟩, .bool false])) (hg : (w1.alloc o).grownBy w2 v.ownBlock) : Rws B w2 v' u (st.add kind text pos) := by
  refine ⟨?_, (World.ownsRow.alloc h.wts o).kept hg (row_ne h.wts h.out (by decide))⟩
  have e : (st.add kind text pos).toks = st.toks ++ [⟨kind, BA text, pos, ⟨#[]⟩, false⟩] := rfl
  rw [e, List.length_append, flatT_snoc]
  exact hown
theorem Rws.lt {B : Nat} {wr : World} {v u : Value} {st : LS} (h : Rws B wr v u st) : (∀ k, v.ownBlock = some k → B ≤ k) ∧ (∀ k, u.ownBlock = some k → B ≤ k) := ⟨fun k hk => (World.ownsRow.lt h.out k hk).1, fun k hk => (World.ownsRow.lt h.wts k hk).1⟩

/-- How far the document's loop is. -/
structure RAt (w : World) (s : ByteArray) (T : LS) (wr : World) (v u : Value) (q : Nat) (st : LS) (G : Nat) : Prop where
  rws : Rws w.heap.size wr v u st
  flt : st.flt = 0
  blm : st.blm = 0
  rest : s.data.toList.drop q = st.rest
  le : q ≤ s.size
  few : Few s.size st
  kin : KInv st
  fin : loopR s.size G st = T
  fuel : st.rest.length + 1 ≤ G
  below : Below w.heap.size w wr
theorem RAt.keep {w : World} {s : ByteArray} {T : LS} {wr w1 : World} {v u : Value} {q : Nat} {st : LS} {G : Nat} (h : RAt w s T wr v u q st G) (hb : Below wr.heap.size wr w1) : RAt w s T w1 v u q st G :=
  ⟨h.rws.keep hb, h.flt, h.blm, h.rest, h.le, h.few, h.kin, h.fin, h.fuel, h.below.trans (hb.mono h.below.size)⟩
/-- One step, by whatever way. -/
theorem RAt.step {w : World} {s : ByteArray} {T : LS} {wr w1 : World} {v u v' u' : Value} {q q' : Nat} {st st' : LS} {G : Nat} {c : UInt8} {R : List UInt8} (h : RAt w s T wr v u q st (G + 1)) (hr : st.rest = c :: R) (hst : stepR s.size st = st') (hf : st'.flt = 0) (hb : st'.blm = 0) (hrw : Rws w.heap.size w1 v' u' st') (hre : s.data.toList.drop q' = st'.rest) (hq : q' ≤ s.size) (hfew : Few s.size st') (hk : KInv st') (hlt : st'.rest.length < st.rest.length) (hbel : Below w.heap.size w w1) : RAt w s T w1 v' u' q' st' G := by
  refine ⟨hrw, hf, hb, hre, hq, hfew, hk, ?_, ?_, hbel⟩
  · rw [← h.fin, loopR_step h.flt (by rw [hr]; simp), hst]
  · have := h.fuel; omega
theorem RAt.fail {w : World} {s : ByteArray} {T : LS} {wr : World} {v u : Value} {q : Nat} {st st' : LS} {G : Nat} {c : UInt8} {R : List UInt8} (h : RAt w s T wr v u q st (G + 1)) (hr : st.rest = c :: R) (hst : stepR s.size st = st') (hf : st'.flt ≠ 0) : T = st' := by
  rw [← h.fin, loopR_step h.flt (by rw [hr]; simp), hst, loopR_bad hf]
theorem few_rest {n : Nat} {st : LS} (h : Few n st) (hf : st.flt = 0) {r : List UInt8} (hr : r.length ≤ st.rest.length) : Few n { st with rest := r } := by
  refine ⟨h.wait, fun _ => ?_, h.toks⟩
  have := h.rest hf
  show st.toks.length + r.length ≤ n
  omega

end Go.Proofs.YtlmpdfeidjnmnaaDoor

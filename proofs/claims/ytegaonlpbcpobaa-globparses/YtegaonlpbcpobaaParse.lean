/-
  The contract of 'Parse'.
-/
import Derived.Test.YtegaonlpbcpobaaToks
import Derived.Test.YtegaonlpbcpobaaBack
import Derived.RangeFuncBox
import Derived.Maps.AppendAt
namespace Go.Proofs.Ytegaonlpbcpobaa
open Go.RowKit Go.Shelf

attribute [local go_sem] Oper.semAt_some

theorem toks_iters (n bs bq : Nat) (v : Value) (s : ByteArray) (q : List Bool) (w : World) (hs : s.size ≤ 100000)
    (hbs : w.cell? ⟨bs, 0, none⟩ = some (.string s)) (hbq : w.cell? ⟨bq, 0, none⟩ = some v) (hrow : QRow n w v q) (hn : n ≤ w.heap.size) :
    Iters 2 Try.prog 32 #[.pointer (some ⟨bs, 0, none⟩), .pointer (some ⟨bq, 0, none⟩)] encX (fun base x X => OwnR X base (.slice x.1.1 x.1.2.1 x.1.2.2) x.2.rs) (fun k => k < n ∨ k = bs) 1 s.size
      (fun xs => xs.map (·.2) = parseL s q) (fun _ => True) w := by
  intro l J Jx W hW hl hJ hY h0
  have hbs' := (hW.cell (p := ⟨bs, 0, none⟩) (cell_lt hbs)).trans hbs
  have hbq' := (hW.cell (p := ⟨bq, 0, none⟩) (cell_lt hbq)).trans hbq
  have hrow' := hrow.below (hW.mono hn)
  have hsz := hW.size
  obtain ⟨a, cap, rfl, _⟩ := hrow.shape
  refine (toks_iter l bs bq n s a cap q J Jx W hs hbs' hbq' hrow' (by omega) hJ (fun pre x W1 hj ht hm hlen => hY pre x W1 hj ht hm hlen) h0).mono ?_
  rintro e W' ⟨hv, ⟨xs, h1, h2⟩ | ⟨pre, h⟩⟩
  · exact ⟨hv, .inl ⟨xs, h1, h2⟩⟩
  · exact ⟨hv, .inr ⟨pre, trivial, h⟩⟩

set_option maxHeartbeats 1000000 in
theorem tokens_any (a : Option Addr) (len cap : Nat) (s : ByteArray) (w : World) :
    Calls Try.prog 23 #[.string s, .slice a len cap] w fun e w' => e = .returned (.func (.func 32) #[] #[.pointer (some ⟨w.heap.size, 0, none⟩), .pointer (some ⟨w.heap.size + 1, 0, none⟩)]) ∧ w' = (w.alloc (.cells #[.string s] 9)).alloc (.cells #[.slice a len cap] 22) := by
  go_enter Try.func23, Try.ntmps23
  go_wp2
  go_ret
  exact ⟨rfl, rfl⟩

def valX (x : XT) : TV := valT x.1 x.2
def slX (x : XT) : Value := .slice x.1.1 x.1.2.1 x.1.2.2

/-- Between two rounds: the tokens that have come. -/
structure PI (w : World) (B0 B1 : Nat) (v : Value) (xs : List XT) (X : World) : Prop where
  h1 : X.cell? ⟨B0, 0, none⟩ = some v
  h2 : X.frozen? ⟨B0, 0, none⟩ = false
  own : X.ownsRow B1 47 4 v xs.length (flatV (xs.map valX))
  rows : ∀ x ∈ xs, OwnR X B1 (slX x) x.2.rs
  h5 : Below w.heap.size w X

theorem ownR_grown {W W' : World} {base B1 size k : Nat} {v u : Value} {zs : List Value} {rs : List (Int × Int)} (h : OwnR W base u rs) (hv : W.ownsRow B1 47 size v k zs) (hg : W.grownBy W' v.ownBlock) : OwnR W' base u rs := by
  obtain ⟨h1, h2 | ⟨g, cap, cur, hu, hb, hc, hr⟩⟩ := h
  · exact ⟨h1, .inl h2⟩
  · refine ⟨h1, .inr ⟨g, cap, cur, hu, hb, (hg.block g (Array.getElem?_eq_some_iff.1 hc).1 (fun e => ?_)).trans hc, hr⟩⟩
    obtain ⟨_, ⟨rfl, _⟩ | ⟨g', cap', cur', rfl, _, hc', _⟩⟩ := hv
    · cases e
    · simp [Value.ownBlock] at e
      subst e
      rw [hc] at hc'
      simp at hc'
theorem ownsRow_turns {W W' : World} {base B m size k : Nat} {e : TypeId} {v : Value} {zs : List Value} (h : W.ownsRow base e size v k zs) (hb : Turns B m W W') (hB : B + m ≤ base) : W'.ownsRow base e size v k zs := by
  obtain ⟨h1, h2 | ⟨g, cap, cur, hv, hg, hc, hr⟩⟩ := h
  · exact ⟨h1, .inl h2⟩
  · exact ⟨h1, .inr ⟨g, cap, cur, hv, hg, (hb.block g (Array.getElem?_eq_some_iff.1 hc).1 (by omega)).trans hc, hr⟩⟩
theorem PI.turns {w : World} {B0 B1 : Nat} {v : Value} {xs : List XT} {X X' : World} {B m : Nat} (h : PI w B0 B1 v xs X) (ht : Turns B m X X') (h1 : B + m ≤ B1) (h2 : B0 < B) (h3 : w.heap.size ≤ B) : PI w B0 B1 v xs X' := by
  have hl := cell_lt h.h1
  exact ⟨(ht.cell (p := ⟨B0, 0, none⟩) hl (by simp; omega)).trans h.h1, (ht.frozen (p := ⟨B0, 0, none⟩) hl (by simp; omega)).trans h.h2, ownsRow_turns h.own ht h1, fun x hx => ownR_turns (h.rows x hx) ht h1, h.h5.trans (ht.below h3 h.h5.size)⟩

theorem tok_cells {w : World} {x0 x1 x2 x3 : Value} {t : TypeId} : ∀ j u, [x0, x1, x2, x3][j]? = some u → (w.alloc (.cells #[x0, x1, x2, x3] t)).cell? ((⟨w.heap.size, 0, none⟩ : Addr).add j) = some u := by
  intro j u hj
  match j, hj with
  | 0, hj => simp at hj; subst hj; simp [Addr.add]
  | 1, hj => simp at hj; subst hj; simp [Addr.add]
  | 2, hj => simp at hj; subst hj; simp [Addr.add]
  | 3, hj => simp at hj; subst hj; simp [Addr.add]
theorem ownsRow_len {W : World} {base size k : Nat} {e : TypeId} {v : Value} {zs : List Value} (h : W.ownsRow base e size v k zs) : k ≤ 9223372036854775807 := by
  obtain ⟨_, ⟨_, rfl⟩ | ⟨g, cap, cur, _, _, _, h1, h2, _⟩⟩ := h
  · omega
  · unfold maxLen at h2; omega

theorem parse_row {w : World} {B0 B1 : Nat} {v : Value} {xs : List XT} {X : World} (h : PI w B0 B1 v xs X) : TokRow X.heap.size X v (xs.map (·.2)) := by
  have hR : ∀ j (hj : j < xs.length), ((xs[j]?.map (·.1)).getD (none, 0, 0)) = xs[j].1 := fun j hj => by rw [List.getElem?_eq_getElem hj]; rfl
  have hv : valsOf (fun j => (xs[j]?.map (·.1)).getD (none, 0, 0)) (xs.map (·.2)) = xs.map valX := by
    apply List.ext_getElem
    · simp [valsOf]
    · intro j h1 h2
      have hj : j < xs.length := by simpa using h2
      rw [valsOf_get _ _ j (by simpa using hj)]
      simp only [List.getElem_map, hR j hj]
      rfl
  have hl : (xs.map (·.2)).length = xs.length := by simp
  refine ownT_row (n := X.heap.size) (base := B1) (R := fun j => (xs[j]?.map (·.1)).getD (none, 0, 0)) ⟨by rw [hv, hl]; exact h.own, fun j hj => ?_⟩ (by rw [hl]; exact ownsRow_len h.own) (Nat.le_refl _)
  have hj' : j < xs.length := by simpa using hj
  simp only [hR j hj', List.getElem_map]
  have := h.rows _ (List.getElem_mem hj')
  exact ownR_row this (ownsRow_len this) (fun k hk => (ownsRow_lt this hk).2)

/-- Behind the assignment to the loop's variable. -/
structure PA (w W : World) (B0 : Nat) (s : ByteArray) (a : Option Addr) (cap : Nat) (q : List Bool) (tb : Nat) (v : Value) (pre : List XT) (x : XT) (a' : Act) (X : World) : Prop where
  h1 : a' = { tmps := #[.string s, .slice a q.length cap, undef, undef, .slice none 0 0, .pointer (some ⟨B0, 0, none⟩), .pointer (some ⟨tb, 0, none⟩), .string s, .slice a q.length cap,
    .func (.func 32) #[] #[.pointer (some ⟨B0 + 1, 0, none⟩), .pointer (some ⟨B0 + 1 + 1, 0, none⟩)], .agg #[.int .i64 x.2.kind, .int .u8 x.2.c, .bool x.2.nt, .slice x.1.1 x.1.2.1 x.1.2.2], undef, undef, undef, undef, undef], defers := [] }
  h2 : PI w B0 (W.heap.size + 2 + 1) v pre X
  h3 : OwnR X (W.heap.size + 2 + 1) (slX x) x.2.rs
  h4 : TokCells X tb 0 (slX x) x.2
  h5 : W.heap.size + 2 + 1 ≤ tb
  h6 : pre.length < s.size

set_option maxRecDepth 100000 in
set_option maxHeartbeats 2000000 in
theorem parse_any (n : Nat) (v : Value) (s : ByteArray) (q : List Bool) (w : World) (hs : s.size ≤ 100000) (hrow : QRow n w v q) (hn : n ≤ w.heap.size) :
    Calls Try.prog 11 #[.string s, v] w fun e w' => ∃ v', e = .returned v' ∧ TokRow w'.heap.size w' v' (parseL s q) ∧ Below w.heap.size w w' := by
  obtain ⟨i0, hi, hz0, hz1, hz2⟩ := info_parts info47
  have HROW := hide hrow
  obtain ⟨a, cap, rfl, _⟩ := hrow.shape
  clear hrow
  refine (callsIn_wide (n := 3)).1 ?_
  refine callsIn_of_wp_marks Try.func11 rfl trivial ?_
  simp only [Try.ntmps11, List.size_toArray, List.length_cons, List.length_nil, Nat.reduceAdd, Nat.reduceSub, Array.replicate_succ, Array.replicate_zero, List.push_toArray, List.append_toArray, List.nil_append, List.cons_append]
  gi_wp2_with fail
  refine ⟨trivial, ?_⟩
  refine (callsIn_wide.2 (tokens_any _ _ _ s _)).mono ?_
  rintro e w1 ⟨rfl, rfl⟩
  gi_wp2_with fail
  obtain ⟨W, hW⟩ : ∃ X, X = ((w.alloc (.cells #[.slice none 0 0] 26)).alloc (.cells #[.string s] 9)).alloc (.cells #[.slice a q.length cap] 22) := ⟨_, rfl⟩
  rw [← hW]
  have hB : Below w.heap.size w W := by rw [hW]; exact (((Below.refl _ w).alloc (Nat.le_refl _) _).alloc (by simp) _).alloc (by simp; omega) _
  have hsz : W.heap.size = w.heap.size + 3 := by rw [hW]; simp
  have c0 : W.cell? ⟨w.heap.size, 0, none⟩ = some (.slice none 0 0) := by rw [hW]; go_simp
  have f0 : W.frozen? ⟨w.heap.size, 0, none⟩ = false := by rw [hW]; go_simp
  have c1 : W.cell? ⟨w.heap.size + 1, 0, none⟩ = some (.string s) := by rw [hW]; go_simp
  have c2 : W.cell? ⟨w.heap.size + 1 + 1, 0, none⟩ = some (.slice a q.length cap) := by rw [hW]; go_simp
  clear hW
  obtain ⟨B0, hB0⟩ : ∃ x, x = w.heap.size := ⟨_, rfl⟩
  rw [← hB0] at c0 f0 c1 c2 ⊢
  have hB1 : B0 ≤ w.heap.size := by omega
  have hB2 : w.heap.size ≤ B0 := by omega
  have hsz1 : W.heap.size ≤ w.heap.size + 3 := by omega
  have hsz2 : w.heap.size + 3 ≤ W.heap.size := by omega
  clear hB0 hsz
  have hit := toks_iters n _ _ _ s q W hs c1 c2 ((unhide HROW).below (hB.mono hn)) (by omega)
  refine range_turns (gf := 32) (lb := #[.pointer (some ⟨B0 + 1, 0, none⟩), .pointer (some ⟨B0 + 1 + 1, 0, none⟩)]) rfl (enters_of Try.func32 (by kernel_rfl) rfl) (by omega)
    hit (fun k h => by rcases h with h | h <;> omega) (fun _ => rfl)
    (fun pre X => ∃ v, PI w B0 (W.heap.size + 2 + 1) v pre X)
    (fun _ _ _ => False)
    (fun pre x a' X => ∃ tb v, PA w W B0 s a cap q tb v pre x a' X)
    ?hI ?hIx ?hAx ?h0 ?hassign ?hbody ?hdone ?hstop
  case hI =>
    rintro pre A A' ⟨v, h⟩ ht
    exact ⟨v, h.turns ht (by omega) (by omega) (by omega)⟩
  case hIx => exact fun _ _ _ _ h _ => h
  case hAx =>
    rintro pre x a' A A' ⟨tb, v, h1, h2, h3, h4, h5, h6⟩ ht
    exact ⟨tb, v, h1, h2.turns ht (by omega) (by omega) (by omega), ownR_turns h3 ht (by omega), h4.of_block (ht.block _ h4.lt (by omega)), h5, h6⟩
  case h0 => exact ⟨_, c0, f0, World.ownsRow_nil _ _ _ _, fun x hx => absurd hx (by simp), hB⟩
  case hassign =>
    rintro l pre x X K ⟨v, hi'⟩ hT hm hlen hK
    have HK := hide hK
    have HI := hide hi'
    have HT := hide hT
    clear hK hi' hT
    unfold encX
    gi_wp2
    refine (unhide HK) _ _ (Spares.of_below ((Below.refl _ _).alloc (Nat.le_refl _) _) (fun k h => by rcases h with h | h <;> omega) (by omega)) ⟨X.heap.size, v, rfl, ?_, ?_, ?_, by omega, hlen⟩
    · exact (unhide HI).turns (B := W.heap.size) (m := 2) (Turns.of_below ((Below.refl _ _).alloc (Nat.le_refl _) _)) (by omega) (by omega) (by omega)
    · exact ownR_below (unhide HT) ((Below.refl _ _).alloc (Nat.le_refl _) _)
    · exact ⟨by go_simp, by go_simp, by go_simp, by unfold slX; go_simp⟩
  case hbody =>
    rintro l pre x a' X ⟨tb, v, rfl, h2, h3, h4, h5, h6⟩ hm
    obtain ⟨k0, k1, k2, k3⟩ := h4
    unfold slX at k3
    have c5 := h2.h1
    have f5 := h2.h2
    have HI := hide h2
    have H3 := hide h3
    have hown := h2.own
    have hB0l : B0 < X.heap.size := cell_lt c5
    have hne : some B0 ≠ v.ownBlock := fun e => by have := (ownsRow_lt hown e.symm).1; omega
    have hb5 := h2.h5.size
    clear h2 h3
    gi_wp2_with (gi_at_builtin; refine wpListIn_append_own _ rfl _ _ 26 rfl (W.heap.size + 2 + 1) 47 i0 _ 4 40 Try.underlying26 hi hz0 hz1 hz2 rfl (by decide) _ _ _ rfl (hown.alloc _) ⟨X.heap.size, 0, none⟩ 1 1 [.int .i64 x.2.kind, .int .u8 x.2.c, .bool x.2.nt, .slice x.1.1 x.1.2.1 x.1.2.2] rfl rfl tok_cells (encT_one (valX x)) (by unfold maxLen; omega) (by omega) (by simp; omega) ?_; intro v' w1 hown' hgrow _; obtain ⟨g', cap', rfl⟩ := ownsRow_succ hown'; have hc1 : w1.cell? ⟨B0, 0, none⟩ = some v := (World.cell?_of_block (w := X) (a := ⟨B0, 0, none⟩) ((hgrow.block B0 (by simp; omega) hne).trans (Below.heap_alloc X _ B0 hB0l))).trans c5; have hf1 : w1.frozen? ⟨B0, 0, none⟩ = false := (World.frozen?_of_block (w := X) (a := ⟨B0, 0, none⟩) ((hgrow.block B0 (by simp; omega) hne).trans (Below.heap_alloc X _ B0 hB0l))).trans f5)
    have hl1 : X.heap.size + 1 ≤ w1.heap.size := by have := hgrow.size; simpa using this
    have hTs : Turns B0 1 w1 (w1.setCell ⟨B0, 0, none⟩ (.slice (some ⟨g', 0, none⟩) (pre.length + 1) cap')) := (Turns.refl _ _ _).setCell (by simp) (by simp) _
    refine ⟨?_, .slice (some ⟨g', 0, none⟩) (pre.length + 1) cap', ?_⟩
    · refine ⟨hgrow.os, hgrow.tape, hgrow.output, by simp; omega, fun k hk => ?_⟩
      have hk1 : k < X.heap.size ∧ k ≠ B0 ∧ some k ≠ v.ownBlock := by
        refine ⟨by rcases hk with (h | h) | h <;> omega, by rcases hk with (h | h) | h <;> omega, fun e => ?_⟩
        have := (ownsRow_lt hown e.symm).1
        rcases hk with (h | h) | h <;> omega
      exact (Below.heap_setCell _ _ _ _ hk1.2.1).trans ((hgrow.block k (by simp; omega) hk1.2.2).trans (Below.heap_alloc X _ k hk1.1))
    · have hgr : ∀ u rs, OwnR X (W.heap.size + 2 + 1) u rs → OwnR (w1.setCell ⟨B0, 0, none⟩ (.slice (some ⟨g', 0, none⟩) (pre.length + 1) cap')) (W.heap.size + 2 + 1) u rs := fun u rs h =>
        ownR_turns (ownR_grown (ownR_below h ((Below.refl _ X).alloc (Nat.le_refl _) _)) (hown.alloc _) hgrow) hTs (by omega)
      refine ⟨World.cell?_setCell_same _ _ _ hc1, by rw [World.frozen?_setCell]; exact hf1, ?_, ?_, ?_⟩
      · have := ownsRow_turns hown' hTs (by omega)
        rw [List.length_append, List.map_append]
        have e : flatV (pre.map valX ++ [x].map valX) = flatV (pre.map valX) ++ [.int .i64 x.2.kind, .int .u8 x.2.c, .bool x.2.nt, .slice x.1.1 x.1.2.1 x.1.2.2] := by
          unfold flatV
          rw [List.flatMap_append]
          rfl
        rw [e]
        exact this
      · intro y hy
        rcases List.mem_append.1 hy with hy | hy
        · exact hgr _ _ ((unhide HI).rows y hy)
        · simp at hy
          subst hy
          exact hgr _ _ (unhide H3)
      · exact (((unhide HI).h5.alloc hb5 _).grown hgrow (by simp; omega) (fun k hk => by have := (ownsRow_lt hown hk).1; omega)).setCell (p := ⟨B0, 0, none⟩) hB2 _
  case hdone =>
    rintro xs X hxs ⟨v, hp⟩ hK
    have c5 := hp.h1
    have HP := hide hp
    have HXS := hide hxs
    clear hp hxs
    gi_wp2
    refine ⟨by simp, .inl ⟨_, _, rfl, run_takeDeferred hK, ?_⟩⟩
    have hT := (Turns.refl W.heap.size 2 X).putObj (Nat.le_refl _) (by omega) (.deferred none)
    have hp' := (unhide HP).turns hT (by omega) (by omega) (by omega)
    refine ⟨_, results_tmp rfl _ _ _, v, rfl, ?_, hp'.h5⟩
    rw [← unhide HXS]
    exact parse_row hp'
  case hstop => exact fun _ _ _ _ h _ => h.elim

end Go.Proofs.Ytegaonlpbcpobaa

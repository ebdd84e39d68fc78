/-
  The contracts of 'Front' and 'Match'.
-/
import Derived.Test.YtegaonlpbcpobaaBeginBig
namespace Go.Proofs.Ytegaonlpbcpobaa
open Go.RowKit Go.Shelf

attribute [local go_sem] Oper.semAt_some

theorem begin_iters (n₀ bs bl : Nat) (v : Value) (s : ByteArray) (ts : List Tok) (w : World) (hs9 : s.size ≤ 100000)
    (hbs : w.cell? ⟨bs, 0, none⟩ = some (.string s)) (hbl : w.cell? ⟨bl, 0, none⟩ = some v) (hrow : TokRow n₀ w v ts) (hn₀ : n₀ ≤ w.heap.size) :
    ∃ m, Iters 2 Try.prog 36 #[.pointer (some ⟨bs, 0, none⟩), .pointer (some ⟨bl, 0, none⟩)] (fun x : Nat => #[Value.int .i64 (x : Int)]) (fun _ _ _ => True) (fun _ => False) m (s.size + 1)
      (fun xs => xs = (List.range (s.size + 1)).filter (tabF s ts)) (fun pre => ∃ k, k ≤ s.size ∧ tabF s ts k = true ∧ pre = (List.range (k + 1)).filter (tabF s ts)) w := by
  refine ⟨if s.size < 128 then 2 else 4, ?_⟩
  intro l J Jx W hW hl hJ hY h0
  have hbs' := (hW.cell (p := ⟨bs, 0, none⟩) (cell_lt hbs)).trans hbs
  have hbl' := (hW.cell (p := ⟨bl, 0, none⟩) (cell_lt hbl)).trans hbl
  have hrow' := hrow.below (hW.mono hn₀)
  have hsz := hW.size
  have hv : ∃ a cap, v = .slice a ts.length cap := by obtain ⟨a, cap, e, _⟩ := hrow; exact ⟨a, cap, e⟩
  obtain ⟨a, cap, rfl⟩ := hv
  by_cases hs : s.size < 128
  · simp only [hs, if_true] at hJ hY ⊢
    refine (begin_small l bs bl n₀ a cap s ts J Jx W hs hbs' hbl' hrow' (by omega) hJ (fun pre x W1 hj hm hlen => hY pre x W1 hj trivial hm hlen) h0).mono ?_
    rintro e W' ⟨hv, h | ⟨k, hk, ht, h⟩⟩
    · exact ⟨hv, .inl ⟨_, rfl, h⟩⟩
    · exact ⟨hv, .inr ⟨_, ⟨k, hk, ht, rfl⟩, h⟩⟩
  · simp only [hs, if_false] at hJ hY ⊢
    refine (begin_big l bs bl n₀ a cap s ts J Jx W (by omega) hs9 hbs' hbl' hrow' (by omega) hJ (fun pre x W1 hj hm hlen => hY pre x W1 hj trivial hm hlen) h0).mono ?_
    rintro e W' ⟨hv, h | ⟨k, hk, ht, h⟩⟩
    · exact ⟨hv, .inl ⟨_, rfl, h⟩⟩
    · exact ⟨hv, .inr ⟨_, ⟨k, hk, ht, rfl⟩, h⟩⟩

set_option maxHeartbeats 1000000 in
theorem beginnings_any (a : Option Addr) (len cap : Nat) (s : ByteArray) (w : World) :
    Calls Try.prog 28 #[.slice a len cap, .string s] w fun e w' => e = .returned (.func (.func 36) #[] #[.pointer (some ⟨w.heap.size + 1, 0, none⟩), .pointer (some ⟨w.heap.size, 0, none⟩)]) ∧ w' = (w.alloc (.cells #[.slice a len cap] 26)).alloc (.cells #[.string s] 9) := by
  go_enter Try.func28, Try.ntmps28
  go_wp2
  go_ret
  exact ⟨rfl, rfl⟩

/-- The last of some numbers, or -1; the first. -/
def lastI (l : List Nat) : Int := match l.getLast? with | some k => (k : Int) | none => -1
def firstI (l : List Nat) : Int := match l.head? with | some k => (k : Int) | none => -1
def frontI (s : ByteArray) (ts : List Tok) (longest : Bool) : Int := if longest then lastI ((List.range (s.size + 1)).filter (tabF s ts)) else firstI ((List.range (s.size + 1)).filter (tabF s ts))

structure FI (w : World) (B0 : Nat) (longest : Bool) (pre : List Nat) (X : World) : Prop where
  h1 : X.cell? ⟨B0 + 1, 0, none⟩ = some (.int .i64 (lastI pre))
  h2 : X.frozen? ⟨B0 + 1, 0, none⟩ = false
  h3 : X.cell? ⟨B0, 0, none⟩ = some (.bool longest)
  h4 : longest = false → pre = []
  h5 : Below w.heap.size w X
structure FX (w : World) (B0 : Nat) (longest : Bool) (c : Code) (pre : List Nat) (X : World) : Prop where
  h1 : c = .exit 0
  h2 : longest = false
  h3 : ∃ x : Nat, pre = [x] ∧ X.cell? ⟨B0 + 1, 0, none⟩ = some (.int .i64 x)
  h4 : Below w.heap.size w X

theorem lastI_snoc (l : List Nat) (x : Nat) : lastI (l ++ [x]) = x := by simp [lastI]
theorem firstI_nil : firstI [] = -1 := rfl
theorem firstI_upto {f : Nat → Bool} {k n : Nat} (hk : k ≤ n) (x : Nat) (h : (List.range (k + 1)).filter f = [x]) : firstI ((List.range (n + 1)).filter f) = x := by
  have e : List.range (n + 1) = List.range (k + 1) ++ (List.range (n - k)).map (k + 1 + ·) := by
    have := @List.range_add (k + 1) (n - k)
    rwa [show k + 1 + (n - k) = n + 1 by omega] at this
  rw [e, List.filter_append, h]
  rfl

set_option maxRecDepth 100000 in
set_option maxHeartbeats 2000000 in
theorem front_any (n₀ : Nat) (v : Value) (s : ByteArray) (ts : List Tok) (longest : Bool) (w : World) (hs9 : s.size ≤ 100000) (hrow : TokRow n₀ w v ts) (hn₀ : n₀ ≤ w.heap.size) :
    Calls Try.prog 19 #[v, .string s, .bool longest] w fun e w' => e = .returned (.int .i64 (frontI s ts longest)) ∧ Below w.heap.size w w' := by
  have HROW := hide hrow
  have hv : ∃ a cap, v = .slice a ts.length cap := by obtain ⟨a, cap, e, _⟩ := hrow; exact ⟨a, cap, e⟩
  obtain ⟨a, cap, rfl⟩ := hv
  clear hrow
  refine (callsIn_wide (n := 3)).1 ?_
  refine callsIn_of_wp_marks Try.func19 rfl trivial ?_
  simp only [Try.ntmps19, List.size_toArray, List.length_cons, List.length_nil, Nat.reduceAdd, Nat.reduceSub, Array.replicate_succ, Array.replicate_zero, List.push_toArray, List.append_toArray, List.nil_append, List.cons_append]
  gi_wp2_with fail
  refine ⟨trivial, ?_⟩
  refine (callsIn_wide.2 (beginnings_any _ _ _ s _)).mono ?_
  rintro e w1 ⟨rfl, rfl⟩
  gi_wp2_with fail
  obtain ⟨W, hW⟩ : ∃ X, X = (((w.alloc (.cells #[.bool longest] 4)).alloc (.cells #[.int .i64 (-1)] 3)).alloc (.cells #[.slice a ts.length cap] 26)).alloc (.cells #[.string s] 9) := ⟨_, rfl⟩
  rw [← hW]
  have hB : Below w.heap.size w W := by rw [hW]; exact ((((Below.refl _ w).alloc (Nat.le_refl _) _).alloc (by simp) _).alloc (by simp; omega) _).alloc (by simp; omega) _
  have hsz : W.heap.size = w.heap.size + 4 := by rw [hW]; simp
  have c0 : W.cell? ⟨w.heap.size, 0, none⟩ = some (.bool longest) := by rw [hW]; go_simp
  have c1 : W.cell? ⟨w.heap.size + 1, 0, none⟩ = some (.int .i64 (-1)) := by rw [hW]; go_simp
  have f1 : W.frozen? ⟨w.heap.size + 1, 0, none⟩ = false := by rw [hW]; go_simp
  have c2 : W.cell? ⟨w.heap.size + 1 + 1, 0, none⟩ = some (.slice a ts.length cap) := by rw [hW]; go_simp
  have c3 : W.cell? ⟨w.heap.size + 1 + 1 + 1, 0, none⟩ = some (.string s) := by rw [hW]; go_simp
  clear hW
  obtain ⟨B0, hB0⟩ : ∃ x, x = w.heap.size := ⟨_, rfl⟩
  rw [← hB0] at c0 c1 f1 c2 c3 ⊢
  have hB1 : B0 ≤ w.heap.size := by omega
  have hB2 : w.heap.size ≤ B0 := by omega
  have hsz1 : W.heap.size ≤ w.heap.size + 4 := by omega
  have hsz2 : w.heap.size + 4 ≤ W.heap.size := by omega
  clear hB0 hsz
  obtain ⟨m, hit⟩ := begin_iters n₀ _ _ _ s ts W hs9 c3 c2 ((unhide HROW).below (hB.mono hn₀)) (by omega)
  refine range_turns (gf := 36) (lb := #[.pointer (some ⟨B0 + 1 + 1 + 1, 0, none⟩), .pointer (some ⟨B0 + 1 + 1, 0, none⟩)]) rfl (enters_of Try.func36 (by kernel_rfl) rfl) (by omega)
    hit (fun _ h => h.elim) (fun _ => rfl)
    (fun pre X => FI w B0 longest pre X)
    (fun c pre X => FX w B0 longest c pre X)
    (fun pre x a' X => a' = { tmps := #[.slice a ts.length cap, .string s, .bool longest, undef, undef, .pointer (some ⟨B0, 0, none⟩), .int .i64 0, .pointer (some ⟨B0 + 1, 0, none⟩), .int .i64 (x : Int), .slice a ts.length cap, .string s,
        .func (.func 36) #[] #[.pointer (some ⟨B0 + 1 + 1 + 1, 0, none⟩), .pointer (some ⟨B0 + 1 + 1, 0, none⟩)], .int .i64 (x : Int), undef, undef, undef, undef], defers := [] } ∧
      FI w B0 longest pre X)
    ?hI ?hIx ?hAx ?h0 ?hassign ?hbody ?hdone ?hstop
  case hI =>
    rintro pre A A' ⟨h1, h2, h3, h4, h5⟩ ht
    have l1 := cell_lt h1
    have l3 := cell_lt h3
    have l5 := h5.size
    simp only at l1 l3
    exact ⟨(ht.cell (p := ⟨B0 + 1, 0, none⟩) l1 (by simp; omega)).trans h1, (ht.frozen (p := ⟨B0 + 1, 0, none⟩) l1 (by simp; omega)).trans h2, (ht.cell (p := ⟨B0, 0, none⟩) l3 (by simp; omega)).trans h3, h4, h5.trans (ht.below (by omega) (by omega))⟩
  case hIx =>
    rintro c pre A A' ⟨rfl, h1, ⟨x, rfl, h2⟩, h3⟩ ht
    have l2 := cell_lt h2
    have l3 := h3.size
    simp only at l2
    exact ⟨rfl, h1, ⟨x, rfl, (ht.cell (p := ⟨B0 + 1, 0, none⟩) l2 (by simp; omega)).trans h2⟩, h3.trans (ht.below (by omega) (by omega))⟩
  case hAx =>
    rintro pre x a' A A' ⟨rfl, h1, h2, h3, h4, h5⟩ ht
    have l1 := cell_lt h1
    have l3 := cell_lt h3
    have l5 := h5.size
    simp only at l1 l3
    exact ⟨rfl, (ht.cell (p := ⟨B0 + 1, 0, none⟩) l1 (by simp; omega)).trans h1, (ht.frozen (p := ⟨B0 + 1, 0, none⟩) l1 (by simp; omega)).trans h2, (ht.cell (p := ⟨B0, 0, none⟩) l3 (by simp; omega)).trans h3, h4, h5.trans (ht.below (by omega) (by omega))⟩
  case h0 => exact ⟨c1, f1, c0, fun _ => rfl, hB⟩
  case hassign =>
    rintro l pre x X K hi _ _ _ hK
    gi_wp2
    exact hK _ _ (Spares.refl _ _ _ _) ⟨rfl, hi⟩
  case hbody =>
    rintro l pre x a' X ⟨rfl, h1, h2, h3, h4, h5⟩ hm
    have hst : (X.setCell ⟨B0 + 1, 0, none⟩ (.int .i64 (x : Int))).cell? ⟨B0 + 1, 0, none⟩ = some (.int .i64 (x : Int)) := World.cell?_setCell_same _ _ _ h1
    have hst2 : (X.setCell ⟨B0 + 1, 0, none⟩ (.int .i64 (x : Int))).cell? ⟨B0, 0, none⟩ = some (.bool longest) := (World.cell?_setCell_other X ⟨B0 + 1, 0, none⟩ ⟨B0, 0, none⟩ _ (addr_ne (.inl (by omega)))).trans h3
    have HB5 := hide h5
    have H4 := hide h4
    clear h4 h5
    rcases Bool.eq_false_or_eq_true longest with hl | hl
    · rw [hl] at h3 hst2
      have HL := hide hl
      clear hl
      gi_wp2
      have hl := unhide HL
      exact ⟨(Spares.refl _ _ _ _).setCell (fun h => h) (by simp; omega) _, by rw [lastI_snoc]; exact hst, by rw [World.frozen?_setCell]; exact h2, by rw [hl]; exact hst2, fun h => absurd (hl.symm.trans h) (by decide), (unhide HB5).setCell (p := ⟨B0 + 1, 0, none⟩) (by simp; omega) _⟩
    · rw [hl] at h3 hst2
      have HL := hide hl
      clear hl
      gi_wp2
      have hl := unhide HL
      exact ⟨(Spares.refl _ _ _ _).setCell (fun h => h) (by simp; omega) _, rfl, hl, ⟨x, by rw [(unhide H4) hl]; rfl, hst⟩, (unhide HB5).setCell (p := ⟨B0 + 1, 0, none⟩) (by simp; omega) _⟩
  case hdone =>
    rintro xs X hxs ⟨h1, h2, h3, h4, h5⟩ hK
    have HXS := hide hxs
    clear hxs
    have HB5 := hide h5
    have H4 := hide h4
    clear h4 h5
    gi_wp2
    refine ⟨by simp, .inl ⟨_, _, rfl, run_takeDeferred hK, ?_⟩⟩
    refine ⟨_, results_tmp rfl _ _ _, ?_, (unhide HB5).trans ?_⟩
    · refine ret_int ?_
      unfold frontI
      rw [← unhide HXS]
      cases longest with
      | true => rfl
      | false =>
        have e := (unhide H4) rfl
        rw [e]; rfl
    · have l5 := (unhide HB5).size
      exact ((Turns.refl W.heap.size 1 X).putObj (by omega) (by omega) _).below (by omega) (by omega)
  case hstop =>
    rintro c pre X ⟨k, hk, ht, hpre⟩ ⟨rfl, hl, ⟨x, rfl, h1⟩, h5⟩ hK
    have HB5 := hide h5
    clear h5
    subst hl
    gi_wp2
    refine ⟨by simp, .inl ⟨_, _, rfl, run_takeDeferred hK, ?_⟩⟩
    refine ⟨_, results_tmp rfl _ _ _, ?_, (unhide HB5).trans ?_⟩
    · refine ret_int ?_
      unfold frontI
      exact (firstI_upto hk x hpre.symm).symm
    · have l5 := (unhide HB5).size
      exact ((Turns.refl W.heap.size 1 X).putObj (by omega) (by omega) _).below (by omega) (by omega)

def matchB (s : ByteArray) (ts : List Tok) : Bool := frontI s ts true == (s.size : Int)

set_option maxHeartbeats 1000000 in
theorem match_any (n₀ : Nat) (v : Value) (s : ByteArray) (ts : List Tok) (w : World) (hs9 : s.size ≤ 100000) (hrow : TokRow n₀ w v ts) (hn₀ : n₀ ≤ w.heap.size) :
    Calls Try.prog 15 #[v, .string s] w fun e w' => e = .returned (.bool (matchB s ts)) ∧ Below w.heap.size w w' := by
  have HROW := hide hrow
  have hv : ∃ a cap, v = .slice a ts.length cap := by obtain ⟨a, cap, e, _⟩ := hrow; exact ⟨a, cap, e⟩
  obtain ⟨a, cap, rfl⟩ := hv
  clear hrow
  go_enter Try.func15, Try.ntmps15
  go_wp2_with fail
  refine (front_any n₀ _ s ts true _ hs9 (unhide HROW) hn₀).mono ?_
  rintro e w1 ⟨rfl, b1⟩
  go_wp2_with fail
  go_ret
  exact ⟨rfl, b1⟩

end Go.Proofs.Ytegaonlpbcpobaa

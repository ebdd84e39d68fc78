/-
  The document's table: one node turns; Get, left, Tie, Hold, Untie, Loose.
-/
import Derived.Test.YtcfhgjlihifmnaaIRef
import Derived.Test.YtcfhgjlihifmnaaINew
namespace Go.Proofs.Ytcfhgjlihifmnaa
open Go.RowKit Go.Maps

theorem RL.step {w w' : World} {q nb : Nat} {K : RLay} {T : TB} (H : RL w q K T nb) {i : Nat} {o o' : Option Nd} (hi : T[i]? = some o) {S : Nat → Prop} (hg : GrownS w w' S) (hS : ∀ k, k < w.heap.size → S k → k = K.r ∨ (∃ x, o = some x ∧ k = K.h (i + 1))) {h' c' : Nat}
    (hrow : ∀ cs, Blk w K.r 44 cs → (∀ j, j < 5 → cs[(i + 1) * 5 + j]? = some (rcell (K.h (i + 1)) (K.hc (i + 1)) o j)) → ∃ cs', Blk w' K.r 44 cs' ∧ cs'.size = cs.size ∧ (∀ j, j < 5 → cs'[(i + 1) * 5 + j]? = some (rcell h' c' o' j)) ∧ ∀ m, m < (i + 1) * 5 ∨ (i + 1) * 5 + 5 ≤ m → cs'[m]? = cs[m]?)
    (hhas : ∀ x', o' = some x' → HasRow w' h' x'.has) (hnew : ∀ (x' : Nd), o' = some x' → ∀ (j : Nat) (y : Nd), j ≠ i → T[j]? = some (some y) → h' ≠ K.h (j + 1)) :
    RL w' q { K with h := updN K.h (i + 1) h', hc := updN K.hc (i + 1) c' } (T.set i o') nb := by
  have ne := H.ne
  have lt := H.lt
  have hil := (List.getElem?_eq_some_iff.1 hi).1
  have ln : (T.set i o').length = T.length := List.length_set
  obtain ⟨cs, hr, h1, h2, h3, h4⟩ := H.row
  obtain ⟨cs', hr', s1, s2, s3⟩ := hrow cs hr (fun j hj => h4 (i + 1) o hi j hj)
  have nS : ∀ k, k < w.heap.size → k ≠ K.r → (∀ x, o = some x → k ≠ K.h (i + 1)) → ¬ S k := fun k hk a1 a2 hs => by
    rcases hS k hk hs with e | ⟨x, e1, e2⟩
    · exact a1 e
    · exact a2 x e1 e2
  have qn : ¬ S q := nS q lt.q ne.1 (fun x e => by subst e; exact ((ne.2 i x hi).1).symm)
  refine ⟨by rw [ln]; exact H.pos, by rw [ln]; exact H.max, by rw [ln]; exact H.tab.grownS hg qn, ⟨cs', hr', by rw [s1]; exact h1, by rw [ln]; exact h2, h3, fun m o2 hm j hj => ?_⟩, fun m x hm => ?_, fun m m' x y hm hm' hne => ?_⟩
  · cases m with
    | zero =>
      have e : o2 = none := by simpa using hm.symm
      subst e
      show cs'[0 * 5 + j]? = some (rcell (updN K.h (i + 1) h' 0) (updN K.hc (i + 1) c' 0) none j)
      rw [s3 _ (.inl (by omega)), h4 0 none rfl j hj]
      rw [show updN K.h (i + 1) h' 0 = K.h 0 from if_neg (by omega), show updN K.hc (i + 1) c' 0 = K.hc 0 from if_neg (by omega)]
    | succ m =>
      have hm : (T.set i o')[m]? = some o2 := hm
      show cs'[(m + 1) * 5 + j]? = some (rcell (updN K.h (i + 1) h' (m + 1)) (updN K.hc (i + 1) c' (m + 1)) o2 j)
      by_cases e : m = i
      · subst e
        rw [set_same hi] at hm
        injection hm with hm
        subst hm
        rw [show updN K.h (m + 1) h' (m + 1) = h' from if_pos rfl, show updN K.hc (m + 1) c' (m + 1) = c' from if_pos rfl]
        exact s2 j hj
      · rw [set_other (fun h2 => e h2.symm)] at hm
        rw [show updN K.h (i + 1) h' (m + 1) = K.h (m + 1) from if_neg (by omega), show updN K.hc (i + 1) c' (m + 1) = K.hc (m + 1) from if_neg (by omega), s3 _ (by omega)]
        exact h4 (m + 1) o2 hm j hj
  · show HasRow w' (updN K.h (i + 1) h' (m + 1)) x.has
    rcases set_get hi hm with ⟨rfl, e⟩ | ⟨e, hm⟩
    · rw [show updN K.h (m + 1) h' (m + 1) = h' from if_pos rfl]
      exact hhas x e
    · rw [show updN K.h (i + 1) h' (m + 1) = K.h (m + 1) from if_neg (by omega)]
      exact (H.has m x hm).grownS hg (nS _ (lt.each m x hm) (ne.2 m x hm).2 (fun y ey => by subst ey; exact H.apart m i x y hm hi e))
  · show updN K.h (i + 1) h' (m + 1) ≠ updN K.h (i + 1) h' (m' + 1)
    rcases set_get hi hm with ⟨e, ex⟩ | ⟨e, hm⟩ <;> rcases set_get hi hm' with ⟨e2, ey⟩ | ⟨e2, hm'⟩
    · omega
    · rw [show updN K.h (i + 1) h' (m + 1) = h' from if_pos (by omega), show updN K.h (i + 1) h' (m' + 1) = K.h (m' + 1) from if_neg (by omega)]
      exact hnew x ex m' y e2 hm'
    · rw [show updN K.h (i + 1) h' (m + 1) = K.h (m + 1) from if_neg (by omega), show updN K.h (i + 1) h' (m' + 1) = h' from if_pos (by omega)]
      exact (hnew y ey m x e hm).symm
    · rw [show updN K.h (i + 1) h' (m + 1) = K.h (m + 1) from if_neg (by omega), show updN K.h (i + 1) h' (m' + 1) = K.h (m' + 1) from if_neg (by omega)]
      exact H.apart m m' x y hm hm' hne
theorem RLay.In.step {K : RLay} {T : TB} {q : Nat} {Y : Nat → Prop} (h : K.In T q Y) {i : Nat} {o o' : Option Nd} (hi : T[i]? = some o) {h' c' : Nat} (hh : ∀ x', o' = some x' → Y h') : RLay.In { K with h := updN K.h (i + 1) h', hc := updN K.hc (i + 1) c' } (T.set i o') q Y :=
  ⟨h.q, h.r, fun m x hm => by
    show Y (updN K.h (i + 1) h' (m + 1))
    rcases set_get hi hm with ⟨e, ex⟩ | ⟨e, hm⟩
    · rw [show updN K.h (i + 1) h' (m + 1) = h' from if_pos (by omega)]
      exact hh x ex
    · rw [show updN K.h (i + 1) h' (m + 1) = K.h (m + 1) from if_neg (by omega)]
      exact h.each m x hm⟩
/-- A field of a node is set. -/
theorem RL.field {w : World} {q nb : Nat} {K : RLay} {T : TB} {Y : Nat → Prop} (H : RL w q K T nb) (hin : K.In T q Y) {i f : Nat} {x x' : Nd} (hi : T[i]? = some (some x)) (hf : f < 5) {v : Value} (hv : rcell (K.h (i + 1)) (K.hc (i + 1)) (some x') f = v) (ho : ∀ j, j < 5 → j ≠ f → rcell (K.h (i + 1)) (K.hc (i + 1)) (some x') j = rcell (K.h (i + 1)) (K.hc (i + 1)) (some x) j) (hh : x'.has = x.has) :
    RAt (w.setCell ⟨K.r, (i + 1) * 5 + f, none⟩ v) q Y (T.set i (some x')) nb ∧ GrownS w (w.setCell ⟨K.r, (i + 1) * 5 + f, none⟩ v) Y := by
  have hg : GrownS w (w.setCell ⟨K.r, (i + 1) * 5 + f, none⟩ v) (fun k => k = K.r) := GrownS.of (grown_setCell w _ _) (fun k e => by simpa using e)
  have hil := (List.getElem?_eq_some_iff.1 hi).1
  have hst := H.step hi (o' := some x') (h' := K.h (i + 1)) (c' := K.hc (i + 1)) hg (fun k _ e => .inl e) (fun cs hr hold => by
    obtain ⟨cs0, hr0, z1, z2, z3, z4⟩ := H.row
    have e : cs0 = cs := by
      have := (show w.heap[K.r]? = _ from hr0).symm.trans hr
      injection this with this
      injection this
    subst e
    refine ⟨cs0.setIfInBounds ((i + 1) * 5 + f) v, hr.set _ _, by simp, fun j hj => ?_, fun m hm => ?_⟩
    · by_cases e : j = f
      · subst e
        rw [Array.getElem?_setIfInBounds_self_of_lt (by omega), hv]
      · rw [Array.getElem?_setIfInBounds_ne (by omega), hold j hj, ho j hj e]
    · rw [Array.getElem?_setIfInBounds_ne (by omega)]) (fun x2 e2 => by
    injection e2 with e2
    subst e2
    rw [hh]
    exact (H.has i x hi).grownS hg (H.ne.2 i x hi).2) (fun x2 _ j y hj hy => H.apart i j x y hi hy (fun e => hj e.symm))
  exact ⟨⟨_, hst, hin.step hi (fun _ _ => hin.each i x hi)⟩, hg.mono (fun k _ e => by rw [show k = K.r from e]; exact hin.r)⟩

set_option maxRecDepth 20000 in
set_option maxHeartbeats 1000000 in
theorem rtie_any {w : World} {q nb : Nat} {Y : Nat → Prop} {T : TB} (H : RAt w q Y T nb) (hgd : ∀ (k : Nat) (x : Nd), T[k]? = some (some x) → 1 ≤ x.kind ∧ x.names ≤ 1000000) (i : Int) (hb : -9223372036854775808 ≤ i ∧ i ≤ 9223372036854775807) :
    Calls Try.prog 36 #[.pointer (some ⟨q, 0, none⟩), .int .i64 i] w fun e w' => e = .returned (.int .i64 (tieE T i)) ∧ RAt w' q Y (tieT T i) nb ∧ GrownS w w' Y := by
  obtain ⟨K, HL, hin⟩ := H
  have HI := hide (ris_any HL (fun k x hx => (hgd k x hx).1) i hb)
  unfold tieE tieT
  cases hx : ndAt T i with
  | none =>
    rw [hx] at HI
    have HE : Hid (RAt w q Y T nb ∧ GrownS w w Y) := hide ⟨⟨K, HL, hin⟩, grownS_of_below (Below.refl _ _)⟩
    clear HL hx hin
    go_enter Try.func36, Try.ntmps36
    go_wp2_with fail
    refine (unhide HI).mono ?_
    rintro e w1 ⟨rfl, hw1⟩
    rw [show w1 = w from hw1]
    clear hw1
    go_wp2
    go_ret
    exact ⟨rfl, unhide HE⟩
  | some x =>
    rw [hx] at HI
    obtain ⟨k, rfl, hk, hkn⟩ := ndAt_some hx
    rw [plc_of]
    have q0 := HL.tab.cell 0 rfl
    change _ = some (Value.slice (some ⟨K.r, 0, none⟩) (T.length + 1) K.c) at q0
    have c1 := HL.cellN hk (j := 1) (by decide)
    have f1 := c1.2
    have c1 := c1.1
    change _ = some (Value.int .i64 (x.names : Int)) at c1
    have hmx := HL.max
    have hm1 := (hgd k x hk).2
    have HE : Hid (RAt (w.setCell ⟨K.r, (k + 1) * 5 + 1, none⟩ (.int .i64 ((x.names : Int) + 1))) q Y (T.set k (some (tieN x))) nb ∧ GrownS w (w.setCell ⟨K.r, (k + 1) * 5 + 1, none⟩ (.int .i64 ((x.names : Int) + 1))) Y) := hide (HL.field hin hk (f := 1) (x' := tieN x) (by decide) rfl (fun j hj hne => by
      match j, hj, hne with
      | 0, _, _ => rfl
      | 1, _, _ => first | rfl | contradiction
      | 2, _, _ => first | rfl | contradiction
      | 3, _, _ => rfl
      | 4, _, _ => rfl) rfl)
    obtain ⟨n, hn⟩ : ∃ n, n = T.length := ⟨_, rfl⟩
    obtain ⟨r, hr⟩ : ∃ r, r = K.r := ⟨_, rfl⟩
    obtain ⟨c, hc⟩ : ∃ c, c = K.c := ⟨_, rfl⟩
    obtain ⟨v, hv⟩ : ∃ v, v = x.names := ⟨_, rfl⟩
    rw [← hn, ← hr, ← hc] at q0
    rw [← hr] at c1 f1 HE
    rw [← hv] at c1 HE hm1
    have h3 : (k : Int) + 1 < (n : Int) + 1 := by omega
    have h4 : (0 : Int) ≤ (k : Int) + 1 := by omega
    clear HL hx hin hk hkn hn hr hc hv hgd
    go_enter Try.func36, Try.ntmps36
    go_wp2_with fail
    refine (unhide HI).mono ?_
    rintro e w1 ⟨rfl, hw1⟩
    rw [show w1 = w from hw1]
    clear hw1
    go_wp2_with fail
    go_region
    all_goals
      go_wp2
      go_ret
      exact ⟨rfl, (unhide HE).1.below (below_drew _ 1), (unhide HE).2.trans (grownS_of_below (below_drew _ 1))⟩
set_option maxRecDepth 20000 in
set_option maxHeartbeats 1000000 in
theorem rhold_any {w : World} {q nb : Nat} {Y : Nat → Prop} {T : TB} (H : RAt w q Y T nb) (hgd : ∀ (k : Nat) (x : Nd), T[k]? = some (some x) → 1 ≤ x.kind ∧ x.users ≤ 1000000) (i : Int) (hb : -9223372036854775808 ≤ i ∧ i ≤ 9223372036854775807) :
    Calls Try.prog 38 #[.pointer (some ⟨q, 0, none⟩), .int .i64 i] w fun e w' => e = .returned (.int .i64 (tieE T i)) ∧ RAt w' q Y (holdT T i) nb ∧ GrownS w w' Y := by
  obtain ⟨K, HL, hin⟩ := H
  have HI := hide (ris_any HL (fun k x hx => (hgd k x hx).1) i hb)
  unfold tieE holdT
  cases hx : ndAt T i with
  | none =>
    rw [hx] at HI
    have HE : Hid (RAt w q Y T nb ∧ GrownS w w Y) := hide ⟨⟨K, HL, hin⟩, grownS_of_below (Below.refl _ _)⟩
    clear HL hx hin
    go_enter Try.func38, Try.ntmps38
    go_wp2_with fail
    refine (unhide HI).mono ?_
    rintro e w1 ⟨rfl, hw1⟩
    rw [show w1 = w from hw1]
    clear hw1
    go_wp2
    go_ret
    exact ⟨rfl, unhide HE⟩
  | some x =>
    rw [hx] at HI
    obtain ⟨k, rfl, hk, hkn⟩ := ndAt_some hx
    rw [plc_of]
    have q0 := HL.tab.cell 0 rfl
    change _ = some (Value.slice (some ⟨K.r, 0, none⟩) (T.length + 1) K.c) at q0
    have c1 := HL.cellN hk (j := 2) (by decide)
    have f1 := c1.2
    have c1 := c1.1
    change _ = some (Value.int .i64 (x.users : Int)) at c1
    have hmx := HL.max
    have hm1 := (hgd k x hk).2
    have HE : Hid (RAt (w.setCell ⟨K.r, (k + 1) * 5 + 2, none⟩ (.int .i64 ((x.users : Int) + 1))) q Y (T.set k (some (holdN x))) nb ∧ GrownS w (w.setCell ⟨K.r, (k + 1) * 5 + 2, none⟩ (.int .i64 ((x.users : Int) + 1))) Y) := hide (HL.field hin hk (f := 2) (x' := holdN x) (by decide) rfl (fun j hj hne => by
      match j, hj, hne with
      | 0, _, _ => rfl
      | 1, _, _ => first | rfl | contradiction
      | 2, _, _ => first | rfl | contradiction
      | 3, _, _ => rfl
      | 4, _, _ => rfl) rfl)
    obtain ⟨n, hn⟩ : ∃ n, n = T.length := ⟨_, rfl⟩
    obtain ⟨r, hr⟩ : ∃ r, r = K.r := ⟨_, rfl⟩
    obtain ⟨c, hc⟩ : ∃ c, c = K.c := ⟨_, rfl⟩
    obtain ⟨v, hv⟩ : ∃ v, v = x.users := ⟨_, rfl⟩
    rw [← hn, ← hr, ← hc] at q0
    rw [← hr] at c1 f1 HE
    rw [← hv] at c1 HE hm1
    have h3 : (k : Int) + 1 < (n : Int) + 1 := by omega
    have h4 : (0 : Int) ≤ (k : Int) + 1 := by omega
    clear HL hx hin hk hkn hn hr hc hv hgd
    go_enter Try.func38, Try.ntmps38
    go_wp2_with fail
    refine (unhide HI).mono ?_
    rintro e w1 ⟨rfl, hw1⟩
    rw [show w1 = w from hw1]
    clear hw1
    go_wp2_with fail
    go_region
    all_goals
      go_wp2
      go_ret
      exact ⟨rfl, (unhide HE).1.below (below_drew _ 1), (unhide HE).2.trans (grownS_of_below (below_drew _ 1))⟩

end Go.Proofs.Ytcfhgjlihifmnaa

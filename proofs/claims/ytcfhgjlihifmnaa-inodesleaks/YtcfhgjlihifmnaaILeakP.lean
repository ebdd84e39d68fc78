/-
  InodesLeaks: what the law counts, and what nodes have.
-/
import Derived.Test.YtcfhgjlihifmnaaIDo
import Derived.Test.YtcfhgjlihifmnaaITxt
namespace Go.Proofs.Ytcfhgjlihifmnaa
open Go.RowKit Go.Maps

def usersOf (o : Option Nd) : Nat := match o with | none => 0 | some x => x.users
/-- The law's own counts: of the node at each number. -/
def nmA (T : TB) (i : Nat) : Int := (namesOf (ndAt T (i : Int)) : Int)
def usA (T : TB) (i : Nat) : Int := (usersOf (ndAt T (i : Int)) : Int)
def updA (f : Nat → Int) (i : Nat) (v : Int) : Nat → Int := fun j => if j = i then v else f j
def arr (f : Nat → Int) : Array Value := #[.int .i64 (f 0), .int .i64 (f 1), .int .i64 (f 2), .int .i64 (f 3), .int .i64 (f 4), .int .i64 (f 5)]
theorem arr_get (f : Nat → Int) {i : Nat} (h : i < 6) : (arr f)[i]? = some (.int .i64 (f i)) := by
  match i, h with
  | 0, _ => rfl
  | 1, _ => rfl
  | 2, _ => rfl
  | 3, _ => rfl
  | 4, _ => rfl
  | 5, _ => rfl
theorem arr_set (f : Nat → Int) {i : Nat} (v : Int) (h : i < 6) : (arr f).setIfInBounds i (.int .i64 v) = arr (updA f i v) := by
  match i, h with
  | 0, _ => rfl
  | 1, _ => rfl
  | 2, _ => rfl
  | 3, _ => rfl
  | 4, _ => rfl
  | 5, _ => rfl
theorem ndAt_set {T : TB} {k : Nat} {o : Option Nd} (h : k < T.length) (i : Int) : ndAt (T.set k o) i = if i = (k : Int) + 1 then o else ndAt T i := by
  by_cases e : i = (k : Int) + 1
  · rw [if_pos e, e]
    exact ndAt_of (by rw [List.getElem?_set, if_pos rfl, if_pos h])
  · rw [if_neg e]
    unfold ndAt
    by_cases h1 : 1 ≤ i
    · rw [if_pos h1, if_pos h1, List.getElem?_set, if_neg (by omega)]
    · rw [if_neg h1, if_neg h1]
theorem updA_of {f g : Nat → Int} {i : Nat} {v : Int} (h : g i = v) (h2 : ∀ j, j ≠ i → g j = f j) : g = updA f i v := by
  funext j
  unfold updA
  split
  · rename_i e; rw [e, h]
  · rename_i e; exact h2 j e
theorem same_of {T T' : TB} (h : ∀ i : Int, namesOf (ndAt T' i) = namesOf (ndAt T i) ∧ usersOf (ndAt T' i) = usersOf (ndAt T i)) : nmA T' = nmA T ∧ usA T' = usA T :=
  ⟨funext fun j => by unfold nmA; rw [(h j).1], funext fun j => by unfold usA; rw [(h j).2]⟩
theorem same_set {T : TB} {k : Nat} {x x' : Nd} (hk : T[k]? = some (some x)) (h1 : x'.names = x.names) (h2 : x'.users = x.users) : nmA (T.set k (some x')) = nmA T ∧ usA (T.set k (some x')) = usA T := by
  apply same_of
  intro i
  rw [ndAt_set (List.getElem?_eq_some_iff.1 hk).1]
  split
  · rename_i e
    rw [e, ndAt_of hk]
    exact ⟨h1, h2⟩
  · exact ⟨rfl, rfl⟩
/-- What a call does to what the law counts. -/
structure Counts (T T' : TB) (o : Op12) (E : Int) : Prop where
  tie : E = 0 → o.ask = 1 → ∃ k : Nat, o.b = (k : Int) ∧ 1 ≤ k ∧ k ≤ T.length ∧ nmA T' = updA (nmA T) k (nmA T k + 1) ∧ usA T' = usA T
  untie : E = 0 → o.ask = 2 → ∃ k : Nat, o.b = (k : Int) ∧ 1 ≤ k ∧ k ≤ T.length ∧ nmA T' = updA (nmA T) k (nmA T k - 1) ∧ usA T' = usA T
  hold : E = 0 → o.ask = 3 → ∃ k : Nat, o.b = (k : Int) ∧ 1 ≤ k ∧ k ≤ T.length ∧ usA T' = updA (usA T) k (usA T k + 1) ∧ nmA T' = nmA T
  loose : E = 0 → o.ask = 4 → ∃ k : Nat, o.b = (k : Int) ∧ 1 ≤ k ∧ k ≤ T.length ∧ usA T' = updA (usA T) k (usA T k - 1) ∧ nmA T' = nmA T
  bad : E ≠ 0 → nmA T' = nmA T ∧ usA T' = usA T
  other : o.ask ≠ 1 → o.ask ≠ 2 → o.ask ≠ 3 → o.ask ≠ 4 → nmA T' = nmA T ∧ usA T' = usA T
theorem counts_of {T T' : TB} {free : Nat} {o : Op12} {N E : Int} {s : List UInt8} (h : DoSp T free o N s E T') : Counts T T' o E := by
  have plain : nmA T' = nmA T ∧ usA T' = usA T → o.ask ≠ 1 → o.ask ≠ 2 → o.ask ≠ 3 → o.ask ≠ 4 → Counts T T' o E := fun hh a1 a2 a3 a4 =>
    ⟨fun _ a => absurd a a1, fun _ a => absurd a a2, fun _ a => absurd a a3, fun _ a => absurd a a4, fun _ => hh, fun _ _ _ _ => hh⟩
  cases h with
  | make h0 =>
    refine plain ?_ (by omega) (by omega) (by omega) (by omega)
    unfold makeT
    split
    · rename_i hk
      simp only [Bool.and_eq_true, decide_eq_true_eq] at hk
      have hf : ∃ o, T[frAt T]? = some o ∧ o.isNone = true := ⟨_, List.getElem?_eq_getElem hk.2, List.findIdx_getElem (w := hk.2)⟩
      obtain ⟨o', ho, ho2⟩ := hf
      cases o' with
      | some x => cases ho2
      | none =>
        apply same_of
        intro i
        rw [ndAt_set hk.2]
        split
        · rename_i e
          rw [e, ndAt_of ho]
          exact ⟨rfl, rfl⟩
        · exact ⟨rfl, rfl⟩
    · exact ⟨rfl, rfl⟩
  | tie h0 =>
    cases hx : ndAt T o.b with
    | none =>
      have e1 : tieE T o.b = 23 := by unfold tieE; rw [hx]
      have e2 : tieT T o.b = T := by unfold tieT; rw [hx]
      rw [e1, e2]
      exact ⟨fun a => by omega, fun a => by omega, fun a => by omega, fun a => by omega, fun _ => ⟨rfl, rfl⟩, fun a => absurd h0 a⟩
    | some x =>
      obtain ⟨k, hb, hk, hkl⟩ := ndAt_some hx
      have e1 : tieE T o.b = 0 := by unfold tieE; rw [hx]
      have e2 : tieT T o.b = T.set k (some (tieN x)) := by unfold tieT; rw [hx, hb, plc_of]
      rw [e1, e2]
      refine ⟨fun _ _ => ⟨k + 1, by rw [hb]; rfl, by omega, by omega, ?_, ?_⟩, fun _ a => by omega, fun _ a => by omega, fun _ a => by omega, fun a => absurd rfl a, fun a => absurd h0 a⟩
      · refine updA_of ?_ (fun j hj => ?_)
        · unfold nmA
          rw [ndAt_set hkl, if_pos (by omega), show ((k + 1 : Nat) : Int) = (k : Int) + 1 by omega, ndAt_of hk]
          show ((x.names + 1 : Nat) : Int) = (x.names : Int) + 1
          omega
        · unfold nmA
          rw [ndAt_set hkl, if_neg (by omega)]
      · funext j
        unfold usA
        rw [ndAt_set hkl]
        split
        · rename_i e
          rw [e, ndAt_of hk]
          rfl
        · rfl
  | hold h0 =>
    cases hx : ndAt T o.b with
    | none =>
      have e1 : tieE T o.b = 23 := by unfold tieE; rw [hx]
      have e2 : holdT T o.b = T := by unfold holdT; rw [hx]
      rw [e1, e2]
      exact ⟨fun a => by omega, fun a => by omega, fun a => by omega, fun a => by omega, fun _ => ⟨rfl, rfl⟩, fun _ _ a => absurd h0 a⟩
    | some x =>
      obtain ⟨k, hb, hk, hkl⟩ := ndAt_some hx
      have e1 : tieE T o.b = 0 := by unfold tieE; rw [hx]
      have e2 : holdT T o.b = T.set k (some (holdN x)) := by unfold holdT; rw [hx, hb, plc_of]
      rw [e1, e2]
      refine ⟨fun _ a => by omega, fun _ a => by omega, fun _ _ => ⟨k + 1, by rw [hb]; rfl, by omega, by omega, ?_, ?_⟩, fun _ a => by omega, fun a => absurd rfl a, fun _ _ a => absurd h0 a⟩
      · refine updA_of ?_ (fun j hj => ?_)
        · unfold usA
          rw [ndAt_set hkl, if_pos (by omega), show ((k + 1 : Nat) : Int) = (k : Int) + 1 by omega, ndAt_of hk]
          show ((x.users + 1 : Nat) : Int) = (x.users : Int) + 1
          omega
        · unfold usA
          rw [ndAt_set hkl, if_neg (by omega)]
      · funext j
        unfold nmA
        rw [ndAt_set hkl]
        split
        · rename_i e
          rw [e, ndAt_of hk]
          rfl
        · rfl
  | untie h0 =>
    cases hx : ndAt T o.b with
    | none =>
      have e1 : untE T o.b = 23 := by unfold untE; rw [hx]
      have e2 : untT T o.b = T := by unfold untT; rw [hx]
      rw [e1, e2]
      exact ⟨fun a => by omega, fun a => by omega, fun a => by omega, fun a => by omega, fun _ => ⟨rfl, rfl⟩, fun _ a => absurd h0 a⟩
    | some x =>
      obtain ⟨k, hb, hk, hkl⟩ := ndAt_some hx
      by_cases hn : x.names = 0
      · have e1 : untE T o.b = 23 := by unfold untE; rw [hx]; simp [hn]
        have e2 : untT T o.b = T := by unfold untT; rw [hx]; simp [hn]
        rw [e1, e2]
        exact ⟨fun a => by omega, fun a => by omega, fun a => by omega, fun a => by omega, fun _ => ⟨rfl, rfl⟩, fun _ a => absurd h0 a⟩
      · have e1 : untE T o.b = 0 := by unfold untE; rw [hx]; simp [hn]
        have e2 : untT T o.b = T.set k (leftN (untN x)) := by unfold untT; rw [hx, hb, plc_of]; simp [hn]
        have e3 : namesOf (leftN (untN x)) = x.names - 1 ∧ usersOf (leftN (untN x)) = x.users := by
          unfold leftN
          split
          · rename_i h
            exact ⟨h.1.symm, h.2.symm⟩
          · exact ⟨rfl, rfl⟩
        rw [e1, e2]
        refine ⟨fun _ a => by omega, fun _ _ => ⟨k + 1, by rw [hb]; rfl, by omega, by omega, ?_, ?_⟩, fun _ a => by omega, fun _ a => by omega, fun a => absurd rfl a, fun _ a => absurd h0 a⟩
        · refine updA_of ?_ (fun j hj => ?_)
          · unfold nmA
            rw [ndAt_set hkl, if_pos (by omega), show ((k + 1 : Nat) : Int) = (k : Int) + 1 by omega, ndAt_of hk, e3.1]
            show ((x.names - 1 : Nat) : Int) = (x.names : Int) - 1
            omega
          · unfold nmA
            rw [ndAt_set hkl, if_neg (by omega)]
        · funext j
          unfold usA
          rw [ndAt_set hkl]
          split
          · rename_i e
            rw [e, ndAt_of hk, e3.2]
            rfl
          · rfl
  | loose h0 =>
    cases hx : ndAt T o.b with
    | none =>
      have e1 : looE T o.b = 23 := by unfold looE; rw [hx]
      have e2 : looT T o.b = T := by unfold looT; rw [hx]
      rw [e1, e2]
      exact ⟨fun a => by omega, fun a => by omega, fun a => by omega, fun a => by omega, fun _ => ⟨rfl, rfl⟩, fun _ _ _ a => absurd h0 a⟩
    | some x =>
      obtain ⟨k, hb, hk, hkl⟩ := ndAt_some hx
      by_cases hn : x.users = 0
      · have e1 : looE T o.b = 23 := by unfold looE; rw [hx]; simp [hn]
        have e2 : looT T o.b = T := by unfold looT; rw [hx]; simp [hn]
        rw [e1, e2]
        exact ⟨fun a => by omega, fun a => by omega, fun a => by omega, fun a => by omega, fun _ => ⟨rfl, rfl⟩, fun _ _ _ a => absurd h0 a⟩
      · have e1 : looE T o.b = 0 := by unfold looE; rw [hx]; simp [hn]
        have e2 : looT T o.b = T.set k (leftN (looN x)) := by unfold looT; rw [hx, hb, plc_of]; simp [hn]
        have e3 : namesOf (leftN (looN x)) = x.names ∧ usersOf (leftN (looN x)) = x.users - 1 := by
          unfold leftN
          split
          · rename_i h
            exact ⟨h.1.symm, h.2.symm⟩
          · exact ⟨rfl, rfl⟩
        rw [e1, e2]
        refine ⟨fun _ a => by omega, fun _ a => by omega, fun _ a => by omega, fun _ _ => ⟨k + 1, by rw [hb]; rfl, by omega, by omega, ?_, ?_⟩, fun a => absurd rfl a, fun _ _ _ a => absurd h0 a⟩
        · refine updA_of ?_ (fun j hj => ?_)
          · unfold usA
            rw [ndAt_set hkl, if_pos (by omega), show ((k + 1 : Nat) : Int) = (k : Int) + 1 by omega, ndAt_of hk, e3.2]
            show ((x.users - 1 : Nat) : Int) = (x.users : Int) - 1
            omega
          · unfold usA
            rw [ndAt_set hkl, if_neg (by omega)]
        · funext j
          unfold nmA
          rw [ndAt_set hkl]
          split
          · rename_i e
            rw [e, ndAt_of hk, e3.1]
            rfl
          · rfl
  | read h0 => exact plain ⟨rfl, rfl⟩ (by omega) (by omega) (by omega) (by omega)
  | write N E T' h0 hw =>
    refine plain ?_ (by omega) (by omega) (by omega) (by omega)
    cases hw with
    | none => exact ⟨rfl, rfl⟩
    | arg => exact ⟨rfl, rfl⟩
    | empty => exact ⟨rfl, rfl⟩
    | big => exact ⟨rfl, rfl⟩
    | space => exact ⟨rfl, rfl⟩
    | done x at' n hx =>
      obtain ⟨k, hb, hk, hkl⟩ := ndAt_some hx
      rw [hb, plc_of]
      exact same_set hk rfl rfl
  | cut a0 a1 a2 a3 a4 a5 a6 =>
    refine plain ?_ a1 a2 a3 a4
    unfold cutT
    cases hx : ndAt T o.b with
    | none => exact ⟨rfl, rfl⟩
    | some x =>
      obtain ⟨k, hb, hk, hkl⟩ := ndAt_some hx
      dsimp only
      split
      · exact ⟨rfl, rfl⟩
      · rw [hb, plc_of]
        exact same_set hk rfl rfl
theorem len_do {T T' : TB} {free : Nat} {o : Op12} {N E : Int} {s : List UInt8} (h : DoSp T free o N s E T') : T'.length = T.length := by
  cases h with
  | make => unfold makeT; split <;> simp
  | tie => unfold tieT; split <;> simp
  | untie => unfold untT; split <;> (try split) <;> simp
  | hold => unfold holdT; split <;> simp
  | loose => unfold looT; split <;> (try split) <;> simp
  | read => rfl
  | write _ _ _ _ hw => cases hw <;> simp
  | cut => unfold cutT; split <;> (try split) <;> simp
/-- How many blocks bytes of a node want. -/
def needN (o : Option Nd) : Nat := (sizeOfN o + 63) / 64
theorem usd_need {x : Nd} (h : x.Good) : cnt x.has ≤ (x.size + 63) / 64 := by
  have h1 : cnt x.has ≤ cnt (fun k => decide (k < (x.size + 63) / 64)) := cnt_mono (fun k hk => by
    have := h.has k hk
    simp
    omega)
  have h2 := cnt_count ((x.size + 63) / 64) 64
  unfold cnt at h1 ⊢
  rw [h2] at h1
  omega
theorem five_of {T : TB} (h : T.length = 5) : T = [ndAt T 1, ndAt T 2, ndAt T 3, ndAt T 4, ndAt T 5] := by
  match T, h with
  | [a, b, c, d, e], _ => rfl
theorem used_five {T : TB} (h : T.length = 5) : usedT T = usd (ndAt T 1) + (usd (ndAt T 2) + (usd (ndAt T 3) + (usd (ndAt T 4) + (usd (ndAt T 5) + 0)))) := by
  match T, h with
  | [a, b, c, d, e], _ => rfl
def needT (T : TB) : Nat := needN (ndAt T 1) + needN (ndAt T 2) + needN (ndAt T 3) + needN (ndAt T 4) + needN (ndAt T 5)
theorem used_need {T : TB} {n : Nat} (h : T.length = 5) (hg : TGood T n) : usedT T ≤ needT T := by
  have each : ∀ i : Int, usd (ndAt T i) ≤ needN (ndAt T i) := fun i => by
    cases hx : ndAt T i with
    | none => exact Nat.zero_le _
    | some x =>
      obtain ⟨k, _, hk, _⟩ := ndAt_some hx
      exact usd_need (hg k x hk).1
  have h1 := each 1
  have h2 := each 2
  have h3 := each 3
  have h4 := each 4
  have h5 := each 5
  rw [used_five h]
  unfold needT
  omega
theorem used_le {T : TB} (h : T.length = 5) : usedT T ≤ 320 := by
  have each : ∀ i : Int, usd (ndAt T i) ≤ 64 := fun i => by
    cases hx : ndAt T i with
    | none => exact Nat.zero_le _
    | some x => exact cnt_le _
  have h1 := each 1
  have h2 := each 2
  have h3 := each 3
  have h4 := each 4
  have h5 := each 5
  rw [used_five h]
  omega

end Go.Proofs.Ytcfhgjlihifmnaa

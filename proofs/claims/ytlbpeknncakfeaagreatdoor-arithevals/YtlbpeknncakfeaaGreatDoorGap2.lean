/-
  How an expression is read, with something behind it, and with more fuel.
-/
import Derived.Test.YtlbpeknncakfeaaGreatDoorGap
namespace Go.Proofs.YtlbpeknncakfeaaGreatDoor
open Go.RowKit Go.Maps
attribute [local irreducible] findOp findSign

/-- What is read without u behind it, and with it. -/
def RelU (u : List UInt8) (o o' : Option (E × List UInt8)) : Prop := match o with
  | some (x, r) => ∃ r', o' = some (x, r') ∧ sk r' = sk (r ++ u)
  | none => sk u = [] → o' = none

theorem p_app {u : List UInt8} (hu : Tail u) : ∀ k : Nat, (∀ l l', sk l' = sk (l ++ u) → RelU u (pExpr k l) (pExpr k l')) ∧ (∀ l l', sk l' = sk (l ++ u) → RelU u (pChoice k l) (pChoice k l')) ∧ (∀ n l l', sk l' = sk (l ++ u) → RelU u (pOp k n l) (pOp k n l')) ∧
    (∀ n x l l', sk l' = sk (l ++ u) → RelU u (pLoop k n x l) (pLoop k n x l')) ∧ (∀ l l', sk l' = sk (l ++ u) → RelU u (pOperand k l) (pOperand k l'))
  | 0 => by
    refine ⟨fun l l' h => ?_, fun l l' h => ?_, fun n l l' h => ?_, fun n x l l' h => ?_, fun l l' h => ?_⟩
    · rw [pExpr, pExpr]; exact fun _ => rfl
    · rw [pChoice, pChoice]; exact fun _ => rfl
    · rw [pOp, pOp]; exact fun _ => rfl
    · rw [pLoop, pLoop]; exact fun _ => rfl
    · rw [pOperand, pOperand]; exact fun _ => rfl
  | k + 1 => by
    obtain ⟨iE, iC, iO, iL, iR⟩ := p_app hu k
    refine ⟨fun l l' h => ?_, fun l l' h => ?_, fun n l l' h => ?_, fun n x l l' h => ?_, fun l l' h => ?_⟩
    · rw [pExpr, pExpr]
      by_cases hm : sk l = []
      · rw [sk_app_nil u hm] at h
        rw [hm, h, setAt_tail hu, show setAt [] = none from rfl]
        exact iC [] (sk u) (by rw [sk_sk]; rfl)
      · rw [sk_app_ne u hm] at h
        rw [h, setAt_app hu hm, nameOf_app hu hm]
        rcases hs : setAt (sk l) with _ | ⟨op, b⟩
        · exact iC (sk l) (sk l ++ u) rfl
        · simp only [Option.map_some]
          have ih := iE b (b ++ u) rfl
          revert ih
          cases pExpr k b with
          | none =>
            intro ih hg
            rw [ih hg]
          | some p =>
            rintro ⟨r', he, hr⟩
            rw [he]
            exact ⟨r', rfl, hr⟩
    · rw [pChoice, pChoice]
      have ih := iO 1 l l' h
      revert ih
      cases pOp k 1 l with
      | none => intro ih hg; rw [ih hg]
      | some p =>
        obtain ⟨c, r⟩ := p
        rintro ⟨r', he, hr⟩
        rw [he]
        simp only []
        rcases h63 : tk 63 r with _ | r1
        · rw [tk_app_none hu hr h63 (.inr (.inl rfl))]
          exact ⟨sk r', rfl, by rw [sk_sk, hr, sk_sk_app]⟩
        · rw [tk_app hr h63]
          simp only []
          have ih := iE r1 (r1 ++ u) rfl
          revert ih
          cases pExpr k r1 with
          | none => intro ih hg; rw [ih hg]
          | some p =>
            obtain ⟨y, r2⟩ := p
            rintro ⟨r2', he2, hr2⟩
            rw [he2]
            simp only []
            rcases h58 : tk 58 r2 with _ | r3
            · rw [tk_app_none hu hr2 h58 (.inr (.inr rfl))]
              exact fun _ => rfl
            · rw [tk_app hr2 h58]
              simp only []
              have ih := iC r3 (r3 ++ u) rfl
              revert ih
              cases pChoice k r3 with
              | none => intro ih hg; rw [ih hg]
              | some p =>
                obtain ⟨z, r4⟩ := p
                rintro ⟨r4', he4, hr4⟩
                rw [he4]
                exact ⟨r4', rfl, hr4⟩
    · rw [pOp, pOp]
      have ih := iR l l' h
      revert ih
      cases pOperand k l with
      | none => intro ih hg; rw [ih hg]
      | some p =>
        obtain ⟨x, r⟩ := p
        rintro ⟨r', he, hr⟩
        rw [he]
        exact iL n x r r' hr
    · rw [pLoop, pLoop]
      by_cases hm : sk l = []
      · rw [sk_app_nil u hm] at h
        rw [hm, h, show opAt [] = none from rfl]
        rcases hu.gap with hg | ⟨hg, hop⟩
        · rw [hg, show opAt [] = none from rfl]
          exact ⟨[], rfl, by rw [List.nil_append, hg]; rfl⟩
        · rw [hg, hop]
          exact ⟨u, rfl, rfl⟩
      · rw [sk_app_ne u hm] at h
        rw [h, opAt_app hu hm]
        rcases ho : opAt (sk l) with _ | ⟨o, m⟩
        · exact ⟨sk l ++ u, rfl, rfl⟩
        · simp only []
          have hle := (opAt_le ho).2.1
          split
          · exact ⟨sk l ++ u, rfl, rfl⟩
          · rw [List.drop_append_of_le_length hle]
            have ih := iO (o.rank + 1) ((sk l).drop m) ((sk l).drop m ++ u) rfl
            revert ih
            cases pOp k (o.rank + 1) ((sk l).drop m) with
            | none => intro ih hg; rw [ih hg]
            | some p =>
              obtain ⟨y, r⟩ := p
              rintro ⟨r', he, hr⟩
              rw [he]
              exact iL n (.op o x y) r r' hr
    · rw [pOperand, pOperand]
      rcases hm : sk l with _ | ⟨c, r⟩
      · rw [sk_app_nil u hm] at h
        intro hg
        rw [h, hg]
      · rw [sk_app_ne u (by rw [hm]; simp), hm] at h
        rw [h]
        simp only [List.cons_append]
        rcases hf : findSign [c] with _ | f
        · simp only []
          by_cases hc : c = 40
          · rw [if_pos hc, if_pos hc]
            have ih := iE r (r ++ u) rfl
            revert ih
            cases pExpr k r with
            | none => intro ih hg; rw [ih hg]
            | some p =>
              obtain ⟨x, r1⟩ := p
              rintro ⟨r1', he, hr⟩
              rw [he]
              simp only []
              rcases h41 : tk 41 r1 with _ | r2
              · intro hg
                rw [tk_app_none hu hr h41 (.inl hg)]
              · rw [tk_app hr h41]
                exact ⟨r2 ++ u, rfl, rfl⟩
          · rw [if_neg hc, if_neg hc, ← List.cons_append, pWord_app hu]
            cases pWord (c :: r) with
            | none => exact fun _ => rfl
            | some p => exact ⟨p.2 ++ u, rfl, rfl⟩
        · simp only []
          have ih := iR r (r ++ u) rfl
          revert ih
          cases pOperand k r with
          | none => intro ih hg; rw [ih hg]
          | some p =>
            obtain ⟨x, r1⟩ := p
            rintro ⟨r1', he, hr⟩
            rw [he]
            exact ⟨r1', rfl, hr⟩

theorem p_more : ∀ k : Nat, (∀ l, 5 * l.length + 5 ≤ k → pExpr (k + 1) l = pExpr k l) ∧ (∀ l, 5 * l.length + 4 ≤ k → pChoice (k + 1) l = pChoice k l) ∧ (∀ n l, 5 * l.length + 3 ≤ k → pOp (k + 1) n l = pOp k n l) ∧
    (∀ n x l, 5 * l.length + 2 ≤ k → pLoop (k + 1) n x l = pLoop k n x l) ∧ (∀ l, 5 * l.length + 1 ≤ k → pOperand (k + 1) l = pOperand k l)
  | 0 => ⟨fun _ h => by omega, fun _ h => by omega, fun _ _ h => by omega, fun _ _ _ h => by omega, fun _ h => by omega⟩
  | k + 1 => by
    obtain ⟨iE, iC, iO, iL, iR⟩ := p_more k
    obtain ⟨lE, lC, lO, lL, lR⟩ := p_len k
    refine ⟨fun l h => ?_, fun l h => ?_, fun n l h => ?_, fun n x l h => ?_, fun l h => ?_⟩
    · have hs := sk_len l
      rw [pExpr, pExpr]
      rcases hsa : setAt (sk l) with _ | ⟨op, b⟩
      · exact iC _ (by omega)
      · simp only []
        have := (setAt_len hsa).1
        rw [iE b (by omega)]
    · rw [pChoice, pChoice, iO 1 l (by omega)]
      rcases hp : pOp k 1 l with _ | ⟨c, r⟩
      · rfl
      · simp only []
        have h1 := lO _ _ _ _ hp
        rcases h63 : tk 63 r with _ | r1
        · rfl
        · simp only []
          have h2 := tk_len h63
          rw [iE r1 (by omega)]
          rcases hy : pExpr k r1 with _ | ⟨y, r2⟩
          · rfl
          · simp only []
            have h3 := lE _ _ _ hy
            rcases h58 : tk 58 r2 with _ | r3
            · rfl
            · simp only []
              have h4 := tk_len h58
              rw [iC r3 (by omega)]
    · rw [pOp, pOp, iR l (by omega)]
      rcases hp : pOperand k l with _ | ⟨x, r⟩
      · rfl
      · have h1 := lR _ _ _ hp
        exact iL n x r (by omega)
    · have hs := sk_len l
      rw [pLoop, pLoop]
      rcases ho : opAt (sk l) with _ | ⟨o, m⟩
      · rfl
      · simp only []
        have h0 := opAt_le ho
        split
        · rfl
        · have hd : ((sk l).drop m).length + 1 ≤ l.length := by rw [List.length_drop]; omega
          rw [iO (o.rank + 1) _ (by omega)]
          rcases hp : pOp k (o.rank + 1) ((sk l).drop m) with _ | ⟨y, r⟩
          · rfl
          · have h1 := lO _ _ _ _ hp
            exact iL n _ r (by omega)
    · have hs := sk_len l
      rw [pOperand, pOperand]
      rcases hm : sk l with _ | ⟨c, r⟩
      · rfl
      · rw [hm] at hs
        simp only [List.length_cons] at hs
        simp only []
        rcases hf : findSign [c] with _ | f
        · simp only []
          by_cases hc : c = 40
          · rw [if_pos hc, if_pos hc, iE r (by omega)]
          · rw [if_neg hc, if_neg hc]
        · simp only []
          rw [iR r (by omega)]
theorem pExpr_fuel {l : List UInt8} {k : Nat} (h : 5 * l.length + 5 ≤ k) : ∀ j, pExpr (k + j) l = pExpr k l
  | 0 => rfl
  | j + 1 => by rw [← Nat.add_assoc, (p_more (k + j)).1 l (by omega), pExpr_fuel h j]
theorem readS_fuel (l : List UInt8) {K : Nat} (h : 5 * l.length + 5 ≤ K) : readS l = match pExpr K l with
    | none => none
    | some (x, r) => if (sk r).isEmpty then some x else none := by
  unfold readS
  obtain ⟨j, rfl⟩ : ∃ j, K = 5 * l.length + 5 + j := ⟨K - (5 * l.length + 5), by omega⟩
  rw [pExpr_fuel (Nat.le_refl _) j]
  rfl

end Go.Proofs.YtlbpeknncakfeaaGreatDoor
